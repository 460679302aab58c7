import PyProof.Rows.All
import Wide.All
import OpenK.AllK
import Wide.FinOn
import Lean
import PyProof.EqAt
import PyProof.EqKinds
import PyProof.TupleCall
import PyProof.NeKinds
import KE.LcSums
import KE.KPairComp
import PyProof.EnumMake
import PyProof.EnumFor
import PyProof.ZipIter
import PyProof.Draws
import KE.KSortTup
import PyProof.Rows.SortWalk
import PyProof.Rows.MinMaxN
import PyProof.Rows.SetFrom
import PyProof.WalkInts
import KE.KSortKey
import KE.KRevSl
import KE.KCallOwn
import PyProof.Rows.FStr
import PyProof.Rows.StrJoin2
import PyProof.StrLaws
import PyProof.Rows.StrIntSpec
import PyProof.Conv_bool
import PyProof.SeqRoads2
import PyProof.ListRange
import PyProof.Rows.TupAdd
import PyProof.ReprRoads
import PySem.Challenge.RW_falsesums_k05_sums_alike_and_written
set_option Elab.async false
set_option linter.all false
set_option maxRecDepth 100000
namespace L2
open PySem
theorem we:(1:Nat)≤sizeLine:=by decide
theorem f9:(2:Nat)≤sizeLine:=by decide
theorem zw:(3:Nat)≤sizeLine:=by decide
theorem Cf:(4:Nat)≤sizeLine:=by decide
theorem B9:(7:Nat)≤sizeLine:=by decide
def ba (s:Stmt)(j:Nat):Stmt:=match s with
 | .ClassDef _ _ _ body _ _ _ _ _ _ _=>body.getD j (.Pass ⟨0,0,0,0⟩)
 | _=>.Pass ⟨0,0,0,0⟩
def cC (s:Stmt):Arguments:=match s with
 | .FunctionDef _ a _ _ _ _ _ _ _ _=>a
 | _=>{ posonlyargs:=[],args:=[],vararg:=none,kwonlyargs:=[],kw_defaults:=[],kwarg:=none,defaults:=[] }
def bV (s:Stmt):List Stmt:=match s with
 | .FunctionDef _ _ b _ _ _ _ _ _ _=>b
 | _=>[]
def ao (s:Stmt):Scope:=match s with
 | .FunctionDef _ _ _ _ _ _ sc _ _ _=>sc
 | _=>{ kind:=.function,names:=[],isGenerator:=false,isCoroutine:=false }
end L2
namespace Hd
open PySem PySem.W PyProof.Rows
def uz (as:List Addr)(h:Heap):Frag:=as.filterMap fun a=>(h.get? a).map fun o=>(a,o)
theorem kJ (h:Heap):∀ as:List Addr,(uz as h).In h
 | [],a,o,e=>by cases e
 | b :: as,a,o,e=>by
   unfold uz at e
   rw [List.filterMap_cons] at e
   cases q:h.get? b with
   | none =>
     rw [q] at e
     exact kJ h as a o e
   | some u =>
     rw [q] at e
     dsimp only [Option.map_some] at e
     rw [List.lookup_cons] at e
     by_cases z:a=b
     ·subst z
      simp only [beq_self_eq_true] at e
      rw [q]; exact e
     ·have:(a == b)=false:=by simpa using z
      simp only [this] at e
      exact kJ h as a o e
abbrev Sig:=Str × Str × Arguments × FuncBody × Scope × Addr × List (Str × Addr) × Value × Addr
def zz (fd:FuncData):Sig:=(fd.name,fd.qualname,fd.params,fd.body,fd.scope,fd.globals,fd.closure,fd.defaults,fd.builtins)
def l8 (K:Frag)(v:Option (Option Value)):Option FuncData:=match v with
 | some (some (.ref f))=>(match K.lookup f with
   | some ⟨_,_,.func fd,_⟩=>some fd
   | _=>none)
 | _=>none
def aW (K:Frag)(v:Option (Option Value)):Option Sig:=(l8 K v).map zz
def c9 (x qual:Str)(st:Stmt):Option Sig:=some (x,qual,L2.cC st,.stmts (L2.bV st),L2.ao st,mainGlobals,[],.none,builtinsNs)
def c4 (v:Option (Option Value)):Addr:=match v with
 | some (some (.ref a))=>a
 | _=>0
def gM (v:Option (Option Value)):Bool:=match v with
 | some (some (.ref _))=>true
 | _=>false
theorem di {v:Option (Option Value)}(h:gM v=true):v=some (some (.ref (c4 v))):=by
 unfold gM at h
 split at h
 ·rfl
 ·cases h
def cE (v:Option (Option Value)):Bool:=match v with
 | some none=>true
 | _=>false
theorem aX {v:Option (Option Value)}(h:cE v=true):v=some none:=by
 unfold cE at h
 split at h
 ·rfl
 ·cases h
def cU (K:Frag)(v:Option (Option Value))(qual:Str):Bool:=keepIn K (.ref (c4 v))&&(match l8 K v with
 | some fd=>codeIn K fd.code qual
 | none=>false)
abbrev gv (K:Frag)(x:Str):Option (Option Value):=nsIn K mainGlobals x
abbrev ga (K:Frag)(x:Str):Addr:=c4 (nsIn K mainGlobals x)
abbrev fv (K:Frag)(c x:Str):Option (Option Value):=findIn K (.ref (c4 (nsIn K mainGlobals c))) x
def gk (K:Frag)(v:Option (Option Value)):Option Sig:=(l8 K v).map fun fd=>zz { fd with defaults:=.none }
def AX (K:Frag)(v:Option (Option Value)):Value:=match l8 K v with
 | some fd=>fd.defaults
 | none=>.none
def nK (K:Frag)(v:Option (Option Value)):Addr:=match AX K v with
 | .ref a=>a
 | _=>0
def rZ (K:Frag)(v:Option (Option Value)):Bool:=match AX K v with
 | .ref _=>true
 | _=>false
def tj (K:Frag)(T:Addr)(p:Value->Bool):Bool:=match K.lookup T with
 | some o=>(match o.data with
   | .seq a _=>(match a.toList with
     | [v]=>p v
     | _=>false)
   | _=>false)
 | none=>false
theorem hZ {K:Frag}{T:Addr}{p:Value->Bool}(h:tj K T p=true):∃ o v n,K.lookup T=some o∧o.data = .seq #[v] n∧p v=true:=by
 unfold tj at h
 split at h
 ·rename_i o ho
  split at h
  ·rename_i a n hd
   split at h
   ·rename_i v hv
    have:a = #[v]:=by rw [← Array.toArray_toList (xs:=a),hv]
    subst this
    exact ⟨o,v,n,ho,hd,h⟩
   ·cases h
  ·cases h
 ·cases h
def isI (n:Int)(v:Value):Bool:=match v with
 | .int i _=>i == n
 | _=>false
theorem iu {n:Int}{v:Value}(h:isI n v=true):∃ t,v = .int n t:=by
 unfold isI at h
 split at h
 ·rename_i i t
  have:i=n:=by simpa using h
  exact ⟨t,by rw [this]⟩
 ·cases h
def u9 (v:Value):Bool:=match v with
 | .none=>true
 | _=>false
theorem kZ {v:Value}(h:u9 v=true):v = .none:=by
 unfold u9 at h
 split at h
 ·rfl
 ·cases h
def lO (v:Option (Option Value))(n:Int):Bool:=match v with
 | some (some u)=>isI n u
 | _=>false
theorem d3 {v:Option (Option Value)}{n:Int}(h:lO v n=true):∃ t,v=some (some (.int n t)):=by
 unfold lO at h
 split at h
 ·obtain ⟨t,rfl⟩:=iu h
  exact ⟨t,rfl⟩
 ·cases h
def qu:List Value->List Int->Bool
 | [],[]=>true
 | v :: vs,n :: ns=>isI n v&&qu vs ns
 | _,_=>false
def vH (K:Frag)(a:Addr)(ns:List Int):Bool:=match K.lookup a with
 | some o=>(match o.cls with
   | .type T=>T == "tuple"
   | _=>false)&&(match o.data with
   | .seq its _=>qu its.toList ns&&decide (its.size≤sizeLine)
   | _=>false)
 | none=>false
def jw (v:Option (Option Value))(s:String):Bool:=match v with
 | some (some (.builtin t))=>t == s
 | _=>false
theorem cJ {v:Option (Option Value)}{s:String}(h:jw v s=true):v=some (some (.builtin s)):=by
 unfold jw at h
 split at h
 ·rename_i t
  have:t=s:=by simpa using h
  rw [this]
 ·cases h
def oE (v:Option Bool)(b:Bool):Bool:=match v with
 | some c=>c == b
 | none=>false
theorem fb {v:Option Bool}{b:Bool}(h:oE v b=true):v=some b:=by
 unfold oE at h
 split at h
 ·rename_i c
  have:c=b:=by simpa using h
  rw [this]
 ·cases h
def xx:List Obj->BT->Nat->Option BT
 | [],t,_=>some t
 | o :: os,t,n=>match ((t.ins n o).get n).isSome with
   | true=>xx os (t.ins n o) (n + 1)
   | false=>none
theorem qR (life:Life):∀ (os:List Obj)(t t':BT)(n:Nat),xx os t n=some t'->(absHeap t' (n + os.length) life).objs=(absHeap t n life).objs++os.toArray
 | [],t,t',n,h=>by
   cases h
   simp
 | o :: os,t,t',n,h=>by
   unfold xx at h
   cases q:((t.ins n o).get n).isSome with
   | false=>rw [q] at h; cases h
   | true =>
     rw [q] at h
     have e:=qR life os _ _ _ h
     rw [absHeap_ins q] at e
     have:n + 1 + os.length=n + (o :: os).length:=by simp only [List.length_cons]; omega
     rw [this] at e
     rw [e]
     show ((absHeap t n life).objs.push o)++os.toArray=_
     rw [← Array.append_singleton,Array.append_assoc]
     simp
def Br (s:Shared):Option SharedT:=(xx s.heap.objs.toList .nil 0).map fun t=>⟨t,s.heap.objs.size,s.heap.life,s.gens,s.drawn,s.toks,s.os⟩
theorem yj {s:Shared}{x:SharedT}(h:Br s=some x):x.abs=s:=by
 unfold Br at h
 obtain ⟨t,e,rfl⟩:=Option.map_eq_some_iff.mp h
 have g:=qR s.heap.life _ _ _ _ e
 obtain ⟨⟨objs,life⟩,gens,drawn,toks,os⟩:=s
 have z:absHeap t objs.size life=⟨objs,life⟩:=by
  have a:(absHeap t objs.size life).objs=objs:=by
   have l:0 + objs.toList.length=objs.size:=by simp
   rw [l] at g
   rw [g]
   simp [absHeap,BT.list]
  exact congrArg (Heap.mk · life) a
 show Shared.mk _ _ _ _ _=_
 rw [z]
def hJ (tb:String->Option Builtin)(p:Program)(w:World)(n₀:Nat)(ann:Option Value):Nat->SharedT->Thread->Option SharedT
 | 0,_,_=>none
 | n + 1,s,t=>match through t with
   | true=>some s
   | false=>match stepOk n₀ ann t with
     | false=>none
     | true=>match stepT (denote tb) p w s t with
       | some (s',t')=>hJ tb p w n₀ ann n s' t'
       | none=>none
section
variable {tb:String->Option Builtin}{p:Program}{w:World}{n₀:Nat}{ann:Option Value}
theorem ix:∀ {n:Nat}{s s':SharedT}{t:Thread},hJ tb p w n₀ ann n s t=some s'->topRun tb p w n₀ ann n s.abs t=some s'.abs
 | 0,_,_,_,h=>by cases h
 | n + 1,s,s',t,h=>by
   unfold hJ at h
   unfold topRun
   cases he:through t with
   | true=>rw [he] at h; cases h; rfl
   | false =>
     rw [he] at h
     cases hk:stepOk n₀ ann t with
     | false=>rw [hk] at h; cases h
     | true =>
       rw [hk] at h
       cases hs:stepT (denote tb) p w s t with
       | none=>rw [hs] at h; cases h
       | some r=>obtain ⟨s₂,t₂⟩:=r; rw [hs] at h; rw [stepT_spec hs]; exact ix h
end
def jm (tb:String->Option Builtin)(p:Program)(w:World)(N:Nat)(s₀:Shared):Option SharedT :=
 match s₀.heap.isNs mainGlobals&&s₀.gens.size == 0 with
 | true=>(Br s₀).bind fun x=>(hJ tb p w s₀.heap.objs.size (s₀.heap.nsMap mainGlobals "__annotations__") N x (topStub p)).bind fun s₁=>match staticsOk (importedModules p.main.body) s₀.heap s₁.abs.heap&&namesBound p s₁.abs.heap&&gensDone s₁.abs&&laidKept s₀.heap s₁.abs.heap with
  | true=>some s₁
  | false=>none
 | false=>none
theorem lN {tb:String->Option Builtin}{p:Program}{w:World}{N:Nat}{s:Shared}{y:SharedT}(h:jm tb p w N s=some y):topFrom tb p w N s=some y.abs:=by
 unfold jm at h
 unfold topFrom
 cases q:(s.heap.isNs mainGlobals&&s.gens.size == 0) with
 | false=>rw [q] at h; cases h
 | true =>
   rw [q] at h
   obtain ⟨x,ex,h⟩:=Option.bind_eq_some_iff.mp h
   obtain ⟨z,ez,h⟩:=Option.bind_eq_some_iff.mp h
   have e:=ix ez
   rw [yj ex] at e
   dsimp only
   rw [e]
   show (match (staticsOk (importedModules p.main.body) s.heap z.abs.heap&&namesBound p z.abs.heap&&gensDone z.abs&&laidKept s.heap z.abs.heap) with | true=>some z.abs | false=>none)=_
   split at h
   ·cases h
    rename_i q2
    simp only [q2]
   ·cases h
def bo (tb:String->Option Builtin)(p:Program)(w:World)(N:Nat):Option SharedT:=(fencedOpening tb p w N).bind (jm tb p w N)
theorem kO {tb:String->Option Builtin}{p:Program}{w:World}{N:Nat}{y:SharedT}(h:bo tb p w N=some y):openEnds tb p w N=some y.abs:=by
 unfold bo at h
 unfold openEnds
 obtain ⟨s,e,h⟩:=Option.bind_eq_some_iff.mp h
 rw [e]
 exact lN h
theorem vw {p q:Program}{loose:List Str}{Xt:Shared->Bool}{α:Type}{Yf:Shared->α}{Ya:World->α}{N:Nat}
 (h1:∀ w,(bo treeTable p w N).map (fun s=>openSeen q loose (importedModules p.main.body) Xt true s.abs)=some (openGood q loose))
 (h2:∀ w,(bo treeTable p w N).map (fun s=>Yf s.abs)=some (Ya w)):LeftO p q loose Xt Yf Ya N:=fun w=>by
 obtain ⟨y,e,z⟩:=Option.map_eq_some_iff.mp (h1 w)
 have z2:=h2 w
 rw [e] at z2
 rw [kO e]
 show some (_,_)=_
 have z3:Yf y.abs=Ya w:=Option.some.inj z2
 rw [z,z3]
section
variable {p q:Program}{loose mods:List Str}{Xt:Shared->Bool}{α:Type}{Yf:Shared->α}{Ya:World->α}{N:Nat}
abbrev mQ (q:Program)(s:Shared):=(seen ((recsOf q).map (·.name)) (ownsOf q) [] { s with gens:=#[] },s.heap.bltView)
abbrev mK (q:Program)(loose mods:List Str)(Xt:Shared->Bool)(s:Shared):Bool :=
 s.heap.keysOk (looseW q loose) ((recsOf q).map (·.name)) ((litsOf q).map (·.1)) ((clssOf q (looseW q loose)).map (·.name))&&s.heap.accountedOkI mods&&s.heap.isNs mainGlobals&&s.heap.isNs builtinsNs&&tablesOk q s.heap&&Xt s&&(if true then s.gens.size == 0 else !leftWithCleanup s.gens)
abbrev nG (q:Program)(loose:List Str)(s:Shared):=(tabsOk q s,pinSeenD q (drecsOf q) s,plainSeenE q (looseW q loose) s,plainSeenD q loose s,wideSeen q s,clsSeenW q loose s)
theorem uh
 (h1:∀ w,(bo treeTable p w N).map (fun s=>mQ q s.abs)=some (expectedOf q,bltViewBooted))
 (h2:∀ w,(bo treeTable p w N).map (fun s=>mK q loose (importedModules p.main.body) Xt s.abs)=some true)
 (h3:∀ w,(bo treeTable p w N).map (fun s=>nG q loose s.abs)=some (true,pinGoodD (drecsOf q),plainGoodE q (looseW q loose),plainGoodD q loose,wideGood q,clsGoodW q loose))
 (h4:∀ w,(bo treeTable p w N).map (fun s=>Yf s.abs)=some (Ya w)):LeftO p q loose Xt Yf Ya N:=by
 refine vw (fun w=>?_) h4
 obtain ⟨y,e,z1⟩:=Option.map_eq_some_iff.mp (h1 w)
 have z2:=h2 w
 have z3:=h3 w
 rw [e] at z2 z3 ⊢
 have z2:mK q loose (importedModules p.main.body) Xt y.abs=true:=Option.some.inj z2
 have z3:nG q loose y.abs=_:=Option.some.inj z3
 show some (openSeen q loose (importedModules p.main.body) Xt true y.abs)=_
 have e1:openSeen q loose (importedModules p.main.body) Xt true y.abs=((mQ q y.abs).1,(mQ q y.abs).2,mK q loose (importedModules p.main.body) Xt y.abs,nG q loose y.abs):=rfl
 rw [e1,z1,z2,z3]
 rfl
theorem uZ
 (h1:∀ w,(bo treeTable p w N).map (fun s=>(mQ q s.abs,mK q loose (importedModules p.main.body) Xt s.abs))=some ((expectedOf q,bltViewBooted),true))
 (h3:∀ w,(bo treeTable p w N).map (fun s=>nG q loose s.abs)=some (true,pinGoodD (drecsOf q),plainGoodE q (looseW q loose),plainGoodD q loose,wideGood q,clsGoodW q loose))
 (h4:∀ w,(bo treeTable p w N).map (fun s=>Yf s.abs)=some (Ya w)):LeftO p q loose Xt Yf Ya N:=by
 refine uh (fun w=>?_) (fun w=>?_) h3 h4
 ·obtain ⟨y,e,z⟩:=Option.map_eq_some_iff.mp (h1 w)
  rw [e]
  exact congrArg some (Prod.mk.inj z).1
 ·obtain ⟨y,e,z⟩:=Option.map_eq_some_iff.mp (h1 w)
  rw [e]
  exact congrArg some (Prod.mk.inj z).2
end
end Hd
namespace K05
open PySem L2 PySem.W
open Hd (gv ga fv c4 gM di cE aX jw cJ oE fb cU aW gk c9 rZ nK tj hZ u9 kZ isI iu lO d3 vH)
def aY (i:Nat):Stmt:=PySem.Challenge.pw_falsesums_k05_sums_alike_and_written.main.body.getD i (.Pass ⟨0,0,0,0⟩)
def primes:List Int:=[2,3,5,7,11,13,17,19,23,29,31,37,41,43,47,53,59,61,67,71,73,79,83,89,97]
abbrev BR:List Value:=[.type "ValueError",.type "Exception",.type "BaseException",.type "object"]
abbrev zX:String:="ValueError.__new__"
def BM (K:Frag):Bool :=
 (cE (gv K "isinstance") &&
 (cE (gv K "int") &&
 (cE (gv K "bool") &&
 (cE (gv K "abs") &&
 (cE (gv K "len") &&
 (cE (gv K "tuple") &&
 (cE (gv K "all") &&
 (cE (gv K "zip") &&
 (cE (gv K "list") &&
 (cE (gv K "enumerate") &&
 (cE (gv K "sorted") &&
 (cE (gv K "max") &&
 (cE (gv K "min") &&
 (cE (gv K "set") &&
 (cE (gv K "range") &&
 (cE (gv K "repr")))))))))))))))))
def BQ (K:Frag):Bool :=
 (cE (gv K "str") &&
 (cE (gv K "divmod") &&
 (gM (gv K "Sum") &&
 (gM (gv K "Field") &&
 (gM (gv K "NoField") &&
 (gM (gv K "PRIMES") &&
 (lO (gv K "FRACTIONS") 0 &&
 (lO (gv K "MOST_PLACES") 60 &&
 (lO (gv K "STEP") 10000000000000000000000000000000000000000000000000000000000000000 &&
 (lO (gv K "STEP_FIGURES") 64 &&
 (cU K (gv K "is_whole") "is_whole" &&
 (cU K (gv K "is_place") "is_place" &&
 (cU K (gv K "is_product") "is_product" &&
 (cU K (gv K "is_term") "is_term" &&
 (cU K (gv K "checked_terms") "checked_terms" &&
 (cU K (gv K "place_of_term") "place_of_term"))))))))))))))))
def BL (K:Frag):Bool :=
 (cU K (gv K "gathered") "gathered" &&
 (cU K (gv K "common_divisor") "common_divisor" &&
 (cU K (gv K "lowest") "lowest" &&
 (cU K (gv K "shown_whole") "shown_whole" &&
 (cU K (gv K "shown_unsigned") "shown_unsigned" &&
 (cU K (gv K "shown_term") "shown_term" &&
 (cU K (gv K "shown_terms") "shown_terms" &&
 (cU K (gv K "place_names") "place_names" &&
 (cU K (gv K "_law_room") "_law_room" &&
 (cU K (gv K "_law_take") "_law_take" &&
 (cU K (gv K "_law_lowest") "_law_lowest" &&
 (cU K (gv K "_law_make") "_law_make" &&
 (cU K (gv K "_law_plus") "_law_plus" &&
 (cU K (gv K "_law_times") "_law_times" &&
 (cU K (gv K "_law_prime") "_law_prime" &&
 (cU K (gv K "_law_number") "_law_number"))))))))))))))))
def BN (K:Frag):Bool :=
 (cU K (gv K "_law_gather") "_law_gather" &&
 (cU K (gv K "_law_terms") "_law_terms" &&
 (cU K (gv K "_law_written") "_law_written" &&
 (cU K (gv K "_law_parted") "_law_parted" &&
 (cU K (gv K "_law_right") "_law_right" &&
 (cU K (gv K "law") "law" &&
 (cU K (fv K "Sum" "__eq__") "Sum.__eq__" &&
 (isFn K (.ref (c4 (fv K "Sum" "__eq__"))) &&
 (cU K (fv K "Sum" "__len__") "Sum.__len__" &&
 (isFn K (.ref (c4 (fv K "Sum" "__len__"))) &&
 (cU K (fv K "Sum" "__str__") "Sum.__str__" &&
 (isFn K (.ref (c4 (fv K "Sum" "__str__"))) &&
 (cU K (fv K "Sum" "__repr__") "Sum.__repr__" &&
 (isFn K (.ref (c4 (fv K "Sum" "__repr__"))) &&
 (cU K (fv K "Field" "__eq__") "Field.__eq__" &&
 (isFn K (.ref (c4 (fv K "Field" "__eq__")))))))))))))))))))
def BS (K:Frag):Bool :=
 (cU K (fv K "Field" "plus") "Field.plus" &&
 (isFn K (.ref (c4 (fv K "Field" "plus"))) &&
 (cU K (fv K "Field" "settled") "Field.settled" &&
 (isFn K (.ref (c4 (fv K "Field" "settled"))) &&
 (cU K (fv K "Field" "is_number") "Field.is_number" &&
 (isFn K (.ref (c4 (fv K "Field" "is_number"))) &&
 (cU K (fv K "Field" "prime") "Field.prime" &&
 (isFn K (.ref (c4 (fv K "Field" "prime"))) &&
 (cU K (fv K "Sum" "__init__") "Sum.__init__" &&
 (isFn K (.ref (c4 (fv K "Sum" "__init__"))) &&
 (rZ K (fv K "Sum" "__init__") &&
 (tj K (nK K (fv K "Sum" "__init__")) (u9) &&
 (cU K (fv K "Field" "__init__") "Field.__init__" &&
 (isFn K (.ref (c4 (fv K "Field" "__init__"))) &&
 (rZ K (fv K "Field" "__init__") &&
 (tj K (nK K (fv K "Field" "__init__")) (isI 0)))))))))))))))))
def BV (K:Frag):Bool :=
 (plainGet K (ga K "Field") Str.empty &&
 (hasDictIn K (ga K "Field") &&
 (plainOver K (ga K "Field") &&
 (jw (fv K "Field" "__setattr__") "object.__setattr__" &&
 (cE (fv K "Field" "its_prime") &&
 (((clsIn K (ga K "Field")).isSome&&typeIn K (.ref (ga K "Field")) == some (.type "type")) &&
 (jw (fv K "Field" "__class__") "object.__class__" &&
 (jw (specialIn K (.builtin "object.__class__") "__get__") "getset_descriptor.__get__" &&
 (oE (takesIn K (.builtin "object.__class__")) true &&
 (oE (mroIn K (ga K "Field") (.type "object")) true &&
 (plainGet K (ga K "Sum") Str.empty &&
 (hasDictIn K (ga K "Sum") &&
 (plainOver K (ga K "Sum") &&
 (jw (fv K "Sum" "__setattr__") "object.__setattr__" &&
 (cE (fv K "Sum" "its_field") &&
 (cE (fv K "Sum" "its_terms")))))))))))))))))
def BP (K:Frag):Bool :=
 (((clsIn K (ga K "Sum")).isSome&&typeIn K (.ref (ga K "Sum")) == some (.type "type")) &&
 (jw (fv K "Sum" "__class__") "object.__class__" &&
 (oE (mroIn K (ga K "Sum") (.type "object")) true &&
 (vH K (ga K "PRIMES") primes &&
 (excIn K (ga K "NoField") BR zX &&
 (jw (fv K "Sum" "__ne__") "object.__ne__" &&
 (cE (fv K "Sum" "__bool__") &&
 (oE (kitOne K (.ref (ga K "Field")) (.ref (ga K "Sum"))) false &&
 (notFirst K (ga K "Sum") (.ref (ga K "Field")) &&
 (makesIn K (ga K "Sum") &&
 (keepIn K (.ref (ga K "Sum")) &&
 (makesIn K (ga K "Field") &&
 (keepIn K (.ref (ga K "Field")))))))))))))))
def pM (K:Frag):Bool:=BM K&&(BQ K&&(BL K&&(BN K&&(BS K&&(BV K&&(BP K))))))
def rM (K:Frag):Bool × List (Option Hd.Sig):=(pM K,[aW K (gv K "is_whole"),aW K (gv K "is_place"),aW K (gv K "is_product"),aW K (gv K "is_term"),aW K (gv K "checked_terms"),aW K (gv K "place_of_term"),aW K (gv K "gathered"),aW K (gv K "common_divisor"),aW K (gv K "lowest"),aW K (gv K "shown_whole"),aW K (gv K "shown_unsigned"),aW K (gv K "shown_term"),aW K (gv K "shown_terms"),aW K (gv K "place_names"),aW K (gv K "_law_room"),aW K (gv K "_law_take"),aW K (gv K "_law_lowest"),aW K (gv K "_law_make"),aW K (gv K "_law_plus"),aW K (gv K "_law_times"),aW K (gv K "_law_prime"),aW K (gv K "_law_number"),aW K (gv K "_law_gather"),aW K (gv K "_law_terms"),aW K (gv K "_law_written"),aW K (gv K "_law_parted"),aW K (gv K "_law_right"),aW K (gv K "law"),aW K (fv K "Sum" "__eq__"),aW K (fv K "Sum" "__len__"),aW K (fv K "Sum" "__str__"),aW K (fv K "Sum" "__repr__"),aW K (fv K "Field" "__eq__"),aW K (fv K "Field" "plus"),aW K (fv K "Field" "settled"),aW K (fv K "Field" "is_number"),aW K (fv K "Field" "prime"),gk K (fv K "Sum" "__init__"),gk K (fv K "Field" "__init__")])
def dueK:Bool × List (Option Hd.Sig):=(true,[c9 "is_whole" "is_whole" ((aY 9)),c9 "is_place" "is_place" ((aY 10)),c9 "is_product" "is_product" ((aY 11)),c9 "is_term" "is_term" ((aY 20)),c9 "checked_terms" "checked_terms" ((aY 21)),c9 "place_of_term" "place_of_term" ((aY 22)),c9 "gathered" "gathered" ((aY 23)),c9 "common_divisor" "common_divisor" ((aY 30)),c9 "lowest" "lowest" ((aY 31)),c9 "shown_whole" "shown_whole" ((aY 15)),c9 "shown_unsigned" "shown_unsigned" ((aY 16)),c9 "shown_term" "shown_term" ((aY 17)),c9 "shown_terms" "shown_terms" ((aY 18)),c9 "place_names" "place_names" ((aY 24)),c9 "_law_room" "_law_room" ((aY 35)),c9 "_law_take" "_law_take" ((aY 36)),c9 "_law_lowest" "_law_lowest" ((aY 37)),c9 "_law_make" "_law_make" ((aY 38)),c9 "_law_plus" "_law_plus" ((aY 39)),c9 "_law_times" "_law_times" ((aY 40)),c9 "_law_prime" "_law_prime" ((aY 41)),c9 "_law_number" "_law_number" ((aY 42)),c9 "_law_gather" "_law_gather" ((aY 43)),c9 "_law_terms" "_law_terms" ((aY 44)),c9 "_law_written" "_law_written" ((aY 45)),c9 "_law_parted" "_law_parted" ((aY 46)),c9 "_law_right" "_law_right" ((aY 47)),c9 "law" "law" ((aY 48)),c9 "__eq__" "Sum.__eq__" (ba (aY 25) 1),c9 "__len__" "Sum.__len__" (ba (aY 25) 2),c9 "__str__" "Sum.__str__" (ba (aY 25) 3),c9 "__repr__" "Sum.__repr__" (ba (aY 25) 4),c9 "__eq__" "Field.__eq__" (ba (aY 33) 1),c9 "plus" "Field.plus" (ba (aY 33) 6),c9 "settled" "Field.settled" (ba (aY 33) 10),c9 "is_number" "Field.is_number" (ba (aY 33) 11),c9 "prime" "Field.prime" (ba (aY 33) 3),c9 "__init__" "Sum.__init__" (ba (aY 25) 0),c9 "__init__" "Field.__init__" (ba (aY 33) 0)])
def pq:List Addr:=[3,30,31,43,44,95,96,102,103,107,108,114,115,121,122,126,127,133,134,140,141,147,148,154,155,159,160,164,165,173,179,180,186,187,193,194,200,201,207,208,287,288,300,306,307,313,314,329,335,336,342,343,356,357,378,379,406,407,413,414,416,417,427,428,434,435,441,442,446,447,453,454,460,461,467,468,474,475,479,480,484,485,489,490,496,497,503,504,508,509]
def fU:Program:={ PySem.Challenge.pw_falsesums_k05_sums_alike_and_written with main:={ PySem.Challenge.pw_falsesums_k05_sums_alike_and_written.main with body:=[aY 0,aY 2,aY 3,aY 4,aY 5,aY 6,aY 8,aY 9,aY 10,aY 11,aY 13,aY 14,aY 15,aY 16,aY 17,aY 18,aY 20,aY 21,aY 22,aY 23,aY 24,aY 25,aY 26,aY 28,aY 29,aY 30,aY 31,aY 32,aY 33,aY 35,aY 36,aY 37,aY 38,aY 39,aY 40,aY 41,aY 42,aY 43,aY 44,aY 45,aY 46,aY 47,aY 48] } }
def lv:List (PySem.Str × WData):=[("STEP",.int 10000000000000000000000000000000000000000000000000000000000000000)]
end K05
section
open PySem PySem.W PyProof.Rows
set_option maxRecDepth 100000 in
set_option maxHeartbeats 0 in
theorem K05.ran1:∀ w,(Hd.bo treeTable PySem.Challenge.rw_falsesums_k05_sums_alike_and_written.row.prog w 6964).map (fun s=>(Hd.mQ K05.fU s.abs,Hd.mK K05.fU ["STEP","Field"] (importedModules PySem.Challenge.rw_falsesums_k05_sums_alike_and_written.row.prog.main.body) (fun s=>xlAt K05.fU K05.lv s&&recOk (PySem.Challenge.rw_falsesums_k05_sums_alike_and_written.row.toRowW).records s) s.abs))=some ((PyProof.Rows.expectedOf K05.fU,bltViewBooted),true):=by
 intro w; kernel_rfl
set_option maxRecDepth 100000 in
set_option maxHeartbeats 0 in
theorem K05.ran3:∀ w,(Hd.bo treeTable PySem.Challenge.rw_falsesums_k05_sums_alike_and_written.row.prog w 6964).map (fun s=>Hd.nG K05.fU ["STEP","Field"] s.abs)=some (true,pinGoodD (drecsOf K05.fU),plainGoodE K05.fU (looseW K05.fU ["STEP","Field"]),plainGoodD K05.fU ["STEP","Field"],wideGood K05.fU,clsGoodW K05.fU ["STEP","Field"]):=by
 intro w; kernel_rfl
set_option maxRecDepth 100000 in
set_option maxHeartbeats 0 in
theorem K05.ran4:∀ w,(Hd.bo treeTable PySem.Challenge.rw_falsesums_k05_sums_alike_and_written.row.prog w 6964).map (fun s=>K05.rM (Hd.uz K05.pq s.abs.heap))=some K05.dueK:=by
 intro w; kernel_rfl
end
namespace L2
open PySem PySem.Spec PyProof.Rows
abbrev Key:=Sum Int Str
def kh:Key->Value->Bool
 | .inl k,v=>Value.isInt k v
 | .inr x,v=>Value.isStrOf x v
def Bs (w:World):Key->Int
 | .inl k=>hashInt k
 | .inr x=>hashStr w x
theorem bw:∀ {k:Key}{v:Value},kh k v=true->(∃ i t,k=Sum.inl i∧v=Value.int i t)∨(∃ x t,k=Sum.inr x∧v=Value.str x t)
 | .inl i,v,h=>by
   obtain ⟨t,e⟩:=Value.isInt_shape (k:=i) (v:=v) h
   exact .inl ⟨i,t,rfl,e⟩
 | .inr x,v,h=>by
   obtain ⟨t,e⟩:=Value.isStrOf_shape (x:=x) (v:=v) h
   exact .inr ⟨x,t,rfl,e⟩
theorem se (i:Int)(t:Tok):kh (.inl i) (.int i t)=true:=by simp [kh,Value.isInt]
theorem sN (x:Str)(t:Tok):kh (.inr x) (.str x t)=true:=by simp [kh,Value.isStrOf]
theorem yH (a b:Int):decide ((Sum.inl a:Key)=Sum.inl b)=(a == b):=by
 by_cases e:a=b
 ·subst e; simp
 ·have h:¬ (Sum.inl a:Key)=Sum.inl b:=fun q=>e (Sum.inl.inj q)
  rw [decide_eq_false h]
  exact (beq_eq_false_iff_ne.mpr e).symm
theorem zp (a b:Str):decide ((Sum.inr a:Key)=Sum.inr b)=decide (a=b):=by
 by_cases e:a=b
 ·subst e; simp
 ·have h:¬ (Sum.inr a:Key)=Sum.inr b:=fun q=>e (Sum.inr.inj q)
  rw [decide_eq_false h,decide_eq_false e]
theorem zb (a:Int)(b:Str):decide ((Sum.inl a:Key)=Sum.inr b)=false:=decide_eq_false (fun q=>nomatch q)
theorem yU (a:Str)(b:Int):decide ((Sum.inr a:Key)=Sum.inl b)=false:=decide_eq_false (fun q=>nomatch q)
def bq (prog:Program)(w:World):PySem.KeyKind prog w Key where
 is:=kh
 hash:=Bs w
 inj:=fun v a b ha hb=>by
  rcases bw ha with ⟨i,t,rfl,rfl⟩ | ⟨x,t,rfl,rfl⟩
  ·rcases bw hb with ⟨j,u,rfl,e⟩ | ⟨y,u,rfl,e⟩
   ·injection e with e1 _; rw [e1]
   ·exact nomatch e
  ·rcases bw hb with ⟨j,u,rfl,e⟩ | ⟨y,u,rfl,e⟩
   ·exact nomatch e
   ·injection e with e1 _; rw [e1]
 byValue:=fun k v h=>by
  rcases bw h with ⟨i,t,rfl,rfl⟩ | ⟨x,t,rfl,rfl⟩ <;> rfl
 pyHash:=fun hv h=>by
  rcases bw hv with ⟨i,t,rfl,rfl⟩ | ⟨x,t,rfl,rfl⟩
  ·exact wpAny_pyHash_int h
  ·exact wpAny_pyHash_str h
 eqBool:=fun hu hv h=>by
  rcases bw hu with ⟨i,t,rfl,rfl⟩ | ⟨x,t,rfl,rfl⟩
  ·rcases bw hv with ⟨j,u,rfl,rfl⟩ | ⟨y,u,rfl,rfl⟩
   ·rw [yH] at h; exact wpAny_eqBool_int h
   ·rw [zb] at h; exact SeqAt.EqAt.int_str i t y u _ _ _ _ h
  ·rcases bw hv with ⟨j,u,rfl,rfl⟩ | ⟨y,u,rfl,rfl⟩
   ·rw [yU] at h; exact SeqAt.EqAt.str_int x t j u _ _ _ _ h
   ·rw [zp] at h; exact wpAny_eqBool_str h
 «strs»:=fun k x t v h=>by
  rcases bw h with ⟨i,u,rfl,e⟩ | ⟨y,u,rfl,e⟩
  ·exact nomatch e
  ·injection e with e1 _
   subst e1
   cases v <;> rfl
theorem mD (prog:Program)(w:World)(i:Int)(t:Tok):(bq prog w).is (.inl i) (.int i t)=true:=se i t
theorem mY (prog:Program)(w:World)(x:Str)(t:Tok):(bq prog w).is (.inr x) (.str x t)=true:=sN x t
inductive V where
 | non | bl (b:Bool) | int (i:Int) | str (x:Str) | byt (b:Array UInt8) | flt (b:UInt64) | ref (a:Addr) | ty (n:String)
 deriving DecidableEq
def aC:V->Value->Prop
 | .non,u=>u=Value.none
 | .bl b,u=>u=Value.bool b
 | .int i,u=>∃ t,u=Value.int i t
 | .str x,u=>∃ t,u=Value.str x t
 | .byt b,u=>∃ t,u=Value.bytes b t
 | .flt b,u=>∃ t,u=Value.float b t
 | .ref a,u=>u=Value.ref a
 | .ty n,u=>u=Value.type n
abbrev aI:List V->List Value->Prop:=Paired aC
theorem aI.length {xs:List V}{us:List Value}(r:aI xs us):xs.length=us.length:=Paired.length r
theorem aI.get:∀ {xs:List V}{us:List Value}{i:Nat}{x:V},aI xs us->xs[i]?=some x->∃ u,us[i]?=some u∧aC x u
 | _,_,_,_,.nil,e=>by simp at e
 | _,_,0,_,.cons r _,e=>by simp at e; subst e; exact ⟨_,rfl,r⟩
 | _,_,i + 1,x,.cons _ t,e=>by
   obtain ⟨u,h1,h2⟩:=aI.get (i:=i) (x:=x) t (by simpa using e)
   exact ⟨u,by simpa using h1,h2⟩
theorem aI.set {x:V}{u:Value}(r:aC x u):∀ {xs:List V}{us:List Value}(i:Nat),aI xs us->aI (xs.set i x) (us.set i u)
 | _,_,_,.nil=>.nil
 | _,_,0,.cons _ t=>.cons r t
 | _,_,i + 1,.cons q t=>.cons q (aI.set r i t)
theorem aI.append:∀ {xs ys:List V}{us ws:List Value},aI xs us->aI ys ws->aI (xs++ys) (us++ws)
 | _,_,_,_,.nil,s=>s
 | _,_,_,_,.cons r t,s=>.cons r (aI.append t s)
theorem aI.take:∀ {xs:List V}{us:List Value}(n:Nat),aI xs us->aI (xs.take n) (us.take n)
 | _,_,0,_=>.nil
 | _,_,_ + 1,.nil=>.nil
 | _,_,n + 1,.cons r t=>.cons r (aI.take n t)
theorem aI.drop:∀ {xs:List V}{us:List Value}(n:Nat),aI xs us->aI (xs.drop n) (us.drop n)
 | _,_,0,r=>r
 | _,_,_ + 1,.nil=>.nil
 | _,_,n + 1,.cons _ t=>aI.drop n t
def dM:Option V->Option Value->Prop
 | some v,some u=>aC v u
 | none,none=>True
 | _,_=>False
def KV {κ:Type}:List (κ × V)->List (κ × Value)->Prop:=Paired fun (p:κ × V)(q:κ × Value)=>p.1=q.1∧aC p.2 q.2
def kV:Key->V
 | .inl i=>.int i
 | .inr x=>.str x
inductive HO where
 /-- a list -/
 | lst (xs:List V)
 /-- a tuple (never changes) -/
 | tup (xs:List V)
 /-- a dict whose keys are ints and texts; one whose keys are tuples of ints and texts (the empty one is both) -/
 | dK (kvs:List (Key × V)) | dT (kvs:List (List Key × V))
 /-- a set of ints: its members,its size -/
 | set (S:Int->Bool)(n:Nat)
 /-- an instance of the class at C,its dict at dx,its attributes -/
 | ins (C dx:Addr)(fs:List (Str × V))
 /-- the dict of the instance at x -/
 | own (x:Addr)
 /-- the dict of an exception -/
 | xd (fs:List (Str × V))
 /-- a bound method,f of x -/
 | met (f x:Addr)
 /-- a range object lo,lo + 1,.. below hi -/
 | rng (lo hi:Int)
 /-- a thing that is known to the object (the script; a dict while a loop xN it): read,never written while it is so -/
 | frz (o:Obj)(u:HO)
 /-- a code object's table -/
 | tbl (ps:Array Value)
 /-- any other thing,by what is true of its one object (a def of one's own: SetO a S n:=HO.ext fun h=>..) -/
 | ext (φ:Heap->Prop)
abbrev Hp:=Addr->Option HO
def upd (H:Hp)(a:Addr)(o:HO):Hp:=fun b=>if b=a then some o else H b
theorem ag {H:Hp}{a:Addr}{o:HO}:upd H a o a=some o:=by unfold upd; rw [if_pos rfl]
theorem ar {H:Hp}{a b:Addr}{o:HO}(h:b≠a):upd H a o b=H b:=by unfold upd; rw [if_neg h]
theorem wN {H:Hp}{a:Addr}{o u:HO}:upd (upd H a o) a u=upd H a u:=by
 funext b; unfold upd; split <;> rfl
theorem mx {H:Hp}{a b:Addr}{o u:HO}(h:H a=some o)(h':H b=some u)(d:o≠u):a≠b:=by
 intro e; subst e; rw [h] at h'; exact d (Option.some.inj h')
theorem au {H:Hp}{a b:Addr}{o:HO}(h:H a=some o)(h':H b=none):a≠b:=by
 intro e; subst e; rw [h] at h'; cases h'
section
variable (P:Program)(w:World)
def a8 (H:Hp)(h:Heap)(a:Addr):HO->Prop
 | .lst xs=>xs.length≤sizeLine∧∃ (its:List Value)(n:Nat),aI xs its∧h.get? a=some { cls:=.type "list",data:=.seq its.toArray n }
 | .tup xs=>xs.length≤sizeLine∧∃ its:List Value,aI xs its∧IsTup h a its.toArray
 | .dK kvs=>kvs.length≤sizeLine∧(a == sysModules)=false∧∃ vs,KV kvs vs∧h.DictOf (bq P w) a vs
 | .dT kvs=>kvs.length≤sizeLine∧(a == sysModules)=false∧∃ xs:List (List Key × Addr × Value),
  Paired (fun (p:List Key × V)(q:List Key × Addr × Value)=>p.1=q.1∧H q.2.1=some (.tup (p.1.map kV))∧aC p.2 q.2.2) kvs xs ∧
  ∃ o es ep,h.get? a=some o∧o.ExactDict∧o.data = .dict es ep∧es.toList=xs.map (entryOfKey (tupleKind (bq P w)))∧(xs.map (·.1)).Nodup
 | .set S n=>h.SetOf (intKind P w) a S n
 | .ins C dx fs=>H dx=some (.own a)∧fs.length≤1000∧dx≠a∧h.get? a=some (PySem.W.instObj C dx) ∧
  ∃ mA,h.Ns1 dx mA∧(∀ f,dM (fs.lookup f) (mA f))∧PySem.Within mA (fs.map (·.1))
 | .own _=>∃ o,h.get? a=some o
 | .xd fs=>∃ mA,h.Ns1 a mA∧∀ f,dM (fs.lookup f) (mA f)
 | .rng lo hi=>∃ t u v,h.get? a=some { cls:=.type "range",data:=.fields #[.int lo t,.int hi u,.int 1 v] }
 | .frz o u=>h.get? a=some o∧a8 H h a u
 | .tbl ps=>h.get? a=some { cls:=.none,data:=.fields ps }
 | .met f x=>h.get? a=some (PySem.W.methodObj (.ref f) (.ref x))
 | .ext φ=>φ h∧(∃ o,h.get? a=some o)∧∀ h1 h2:Heap,φ h1->(∀ o,h1.get? a=some o->h2.get? a=some o)->φ h2
def dY (H:Hp)(h:Heap):Prop:=∀ a o,H a=some o->a8 P w H h a o
end
section
variable {P:Program}{w:World}{H H':Hp}{h h':Heap}{a:Addr}{o:HO}
theorem a8.lt (x:a8 P w H h a o):a < h.objs.size:=by
 cases o with
 | lst xs=>obtain ⟨_,_,_,_,e⟩:=x; exact Heap.lt_size e
 | tup xs=>obtain ⟨_,_,_,p⟩:=x; exact p.lt
 | dK kvs=>obtain ⟨_,_,_,_,o,_,_,e,_⟩:=x; exact Heap.lt_size e
 | dT kvs=>obtain ⟨_,_,_,_,o,_,_,e,_⟩:=x; exact Heap.lt_size e
 | set S n=>obtain ⟨o,_,_,_,e,_⟩:=x; exact Heap.lt_size e
 | ins C dx fs=>obtain ⟨_,_,_,e,_⟩:=x; exact Heap.lt_size e
 | own y=>obtain ⟨_,e⟩:=x; exact Heap.lt_size e
 | xd fs=>obtain ⟨_,⟨_,_,_,e,_⟩,_⟩:=x; exact Heap.lt_size e
 | rng lo hi=>obtain ⟨_,_,_,e⟩:=x; exact Heap.lt_size e
 | frz ob u=>obtain ⟨e,_⟩:=x; exact Heap.lt_size e
 | tbl ps=>exact Heap.lt_size (show h.get? a=some _ from x)
 | met f y=>exact Heap.lt_size (show h.get? a=some _ from x)
 | ext φ=>obtain ⟨_,⟨_,e⟩,_⟩:=x; exact Heap.lt_size e
theorem Paired.mapP {α β:Type}{F G:α->β->Prop}:∀ {l₁:List α}{l₂:List β},Paired F l₁ l₂->(∀ a b,F a b->G a b)->Paired G l₁ l₂
 | _,_,.nil,_=>.nil
 | _,_,.cons r t,f=>.cons (f _ _ r) (Paired.mapP t f)
theorem a8.stay (x:a8 P w H h a o)(k:∀ b u,(b=a∨H b=some (.own a))->h.get? b=some u->h'.get? b=some u)
 (ho:∀ b,H b=some (.own a)->H' b=some (.own a))(ht:∀ b xs,H b=some (.tup xs)->H' b=some (.tup xs)):a8 P w H' h' a o:=by
 induction o with
 | lst xs=>obtain ⟨z,its,n,r,e⟩:=x; exact ⟨z,its,n,r,k _ _ (.inl rfl) e⟩
 | tup xs=>obtain ⟨z,its,r,ob,e,c⟩:=x; exact ⟨z,its,r,ob,k _ _ (.inl rfl) e,c⟩
 | dK kvs=>obtain ⟨z,y,vs,r,ob,es,ep,e,c⟩:=x; exact ⟨z,y,vs,r,ob,es,ep,k _ _ (.inl rfl) e,c⟩
 | dT kvs =>
   obtain ⟨z,y,xs,r,ob,es,ep,e,c⟩:=x
   exact ⟨z,y,xs,Paired.mapP r fun p q z=>⟨z.1,ht _ _ z.2.1,z.2.2⟩,ob,es,ep,k _ _ (.inl rfl) e,c⟩
 | set S n=>obtain ⟨ob,es,ep,t,e,c⟩:=x; exact ⟨ob,es,ep,t,k _ _ (.inl rfl) e,c⟩
 | ins C dx fs =>
   obtain ⟨d,z,ne,e,mA,⟨od,es,ep,e2,c⟩,r⟩:=x
   exact ⟨ho _ d,z,ne,k _ _ (.inl rfl) e,mA,⟨od,es,ep,k _ _ (.inr d) e2,c⟩,r⟩
 | own y=>obtain ⟨ob,e⟩:=x; exact ⟨ob,k _ _ (.inl rfl) e⟩
 | xd fs=>obtain ⟨mA,⟨od,es,ep,e,c⟩,r⟩:=x; exact ⟨mA,⟨od,es,ep,k _ _ (.inl rfl) e,c⟩,r⟩
 | rng lo hi=>obtain ⟨t,u,v,e⟩:=x; exact ⟨t,u,v,k _ _ (.inl rfl) e⟩
 | frz ob u ih=>obtain ⟨e,q⟩:=x; exact ⟨k _ _ (.inl rfl) e,ih q⟩
 | tbl ps =>
   have e:h.get? a=some { cls:=.none,data:=.fields ps }:=x
   show h'.get? a=some { cls:=.none,data:=.fields ps }
   exact k a _ (.inl rfl) e
 | met f y =>
   have e:h.get? a=some (PySem.W.methodObj (.ref f) (.ref y)):=x
   show h'.get? a=some (PySem.W.methodObj (.ref f) (.ref y))
   exact k a _ (.inl rfl) e
 | ext φ=>obtain ⟨p,⟨o,e⟩,st⟩:=x; exact ⟨st _ _ p fun o q=>k _ _ (.inl rfl) q,⟨o,k _ _ (.inl rfl) e⟩,st⟩
theorem dY.lt (x:dY P w H h)(e:H a=some o):a < h.objs.size:=(x a o e).lt
theorem dY.fresh (x:dY P w H h)(e:h.objs.size≤a):H a=none:=by
 cases q:H a with
 | none=>rfl
 | some u=>exact absurd (Nat.lt_of_lt_of_le (x.lt q) e) (Nat.lt_irrefl _)
theorem dY.kept (x:dY P w H h)(k:∀ b u,h.get? b=some u->h'.get? b=some u):dY P w H h':=fun a o e =>
 (x a o e).stay (fun b u _ q=>k b u q) (fun _ q=>q) fun _ _ q=>q
theorem dY.laid (x:dY P w H h)(k:∀ b u,h.get? b=some u->h'.get? b=some u)(hp:h.objs.size≤a)(new:a8 P w (upd H a o) h' a o):dY P w (upd H a o) h':=fun b u e=>by
 have hn:=x.fresh hp
 by_cases hb:b=a
 ·subst hb; rw [ag] at e; cases e; exact new
 ·rw [ar hb] at e
  exact (x b u e).stay (fun c v _ q=>k c v q) (fun c q=>by rw [ar (au q hn)]; exact q) fun c xs q=>by rw [ar (au q hn)]; exact q
end
def Rd (H:Hp)(a:Addr)(u:HO):Prop:=H a=some u∨∃ o,H a=some (.frz o u)
theorem Rd.ok {P:Program}{w:World}{H:Hp}{h:Heap}{a:Addr}{u:HO}(r:Rd H a u)(x:dY P w H h):a8 P w H h a u:=by
 rcases r with r | ⟨o,r⟩
 ·exact x a u r
 ·obtain ⟨_,q⟩:=x a _ r
  exact q
def zU:Option HO->Prop
 | some (.lst _)=>True
 | some (.dK _)=>True
 | some (.dT _)=>True
 | some (.set _ _)=>True
 | some (.ins _ _ _)=>True
 | some (.ext _)=>True
 | _=>False
section
variable {P:Program}{w:World}{H:Hp}{h h':Heap}{x e:Addr}{o':HO}
theorem dY.write (ok:dY P w H h)(mu:zU (H x))(he:e=x∨H e=some (.own x))(k:∀ b u,b≠e->h.get? b=some u->h'.get? b=some u)(heo:∃ u,h'.get? e=some u)
 (new:a8 P w (upd H x o') h' x o'):dY P w (upd H x o') h':=fun b u q=>by
 have nown:∀ c y,H c=some (.own y)->c≠x:=fun c y r z=>by subst z; rw [r] at mu; exact mu
 have ntup:∀ c xs,H c=some (.tup xs)->c≠x:=fun c xs r z=>by subst z; rw [r] at mu; exact mu
 by_cases hb:b=x
 ·subst hb; rw [ag] at q; cases q; exact new
 ·rw [ar hb] at q
  by_cases hbe:b=e
  ·have q':H b=some (.own x):=by
    rcases he with z | z
    ·exact absurd (hbe.trans z) hb
    ·rw [hbe]; exact z
   rw [q] at q'; cases q'
   obtain ⟨v,hv⟩:=heo
   exact ⟨v,by rw [hbe]; exact hv⟩
  ·refine (ok b u q).stay (fun c v hc r=>k c v ?_ r) (fun c r=>by rw [ar (nown c b r)]; exact r) fun c xs r=>by rw [ar (ntup c xs r)]; exact r
   rcases hc with rfl | hc
   ·exact hbe
   ·rintro rfl
    rcases he with z | z
    ·exact nown c b hc z
    ·rw [hc] at z; cases z; exact hb rfl
end
structure Un (fs ex:List Addr)(H H':Hp)(h h':Heap):Prop where
 keep:∀ b o,h.get? b=some o->H b=none->b ∉ fs->b ∉ ex->h'.get? b=some o
 slot:∀ b o,h.get? b=some o->H b=none->b∈fs->b ∉ ex->∃ sl,h'.get? b=some { o with slots:=sl }
 free:∀ b o,h.get? b=some o->H b=none->b ∉ ex->H' b=none
 there:∀ b o,h.get? b=some o->b ∉ ex->∃ o',h'.get? b=some o'
 tups:∀ b xs,H b=some (.tup xs)->H' b=some (.tup xs)
 frzs:∀ b o u,H b=some (.frz o u)->H' b=some (.frz o u)
 tbls:∀ b ps,H b=some (.tbl ps)->∃ more,H' b=some (.tbl (ps++more))
section
variable {fs fs' ex ex':List Addr}{H H1 H2:Hp}{h h1 h2 h':Heap}{a x e:Addr}{o:HO}
theorem Un.any (u:Un fs ex H H1 h h1){b:Addr}{ob:Obj}(q:h.get? b=some ob)(n:H b=none)(hx:b ∉ ex):∃ sl,h1.get? b=some { ob with slots:=sl }:=by
 by_cases hb:b∈fs
 ·exact u.slot b ob q n hb hx
 ·exact ⟨ob.slots,u.keep b ob q n hb hx⟩
theorem Un.kept (k:∀ b u,h.get? b=some u->h'.get? b=some u):Un fs ex H H h h' :=
 ⟨fun b ob q _ _ _=>k b ob q,fun b ob q _ _ _=>⟨ob.slots,k b ob q⟩,fun _ _ _ n _=>n,fun b ob q _=>⟨ob,k b ob q⟩,fun _ _ q=>q,fun _ _ _ q=>q,fun _ ps q=>⟨#[],by rw [q]; simp⟩⟩
theorem Un.refl:Un fs ex H H h h:=Un.kept fun _ _ q=>q
theorem Un.laid (k:∀ b u,h.get? b=some u->h'.get? b=some u)(hp:h.objs.size≤a)(hn:H a=none):Un fs ex H (upd H a o) h h' where
 keep:=fun b u q _ _ _=>k b u q
 slot:=fun b u q _ _ _=>⟨u.slots,k b u q⟩
 free:=fun b u q n _=>by rw [ar (Nat.ne_of_lt (Nat.lt_of_lt_of_le (Heap.lt_size q) hp))]; exact n
 there:=fun b u q _=>⟨u,k b u q⟩
 tups:=fun b xs q=>by rw [ar (au q hn)]; exact q
 frzs:=fun b u xs q=>by rw [ar (au q hn)]; exact q
 tbls:=fun b ps q=>⟨#[],by rw [ar (au q hn),q]; simp⟩
theorem Un.write (mu:zU (H x))(he:e=x∨H e=some (.own x))(k:∀ b u,b≠e->h.get? b=some u->h'.get? b=some u)(heo:∃ u,h'.get? e=some u):Un fs ex H (upd H x o) h h':=by
 have hx:∀ b,H b=none->b≠x:=fun b n z=>by subst z; rw [n] at mu; exact mu
 have hb:∀ b,H b=none->b≠e:=fun b n z=>by
  subst z
  rcases he with r | r
  ·exact hx b n r
  ·rw [n] at r; cases r
 have hm:∀ b u,H b=some u->¬ zU (some u)->b≠x:=fun b u q nm z=>by subst z; rw [q] at mu; exact nm mu
 refine ⟨fun b u q n _ _=>k b u (hb b n) q,fun b u q n _ _=>⟨u.slots,k b u (hb b n) q⟩,fun b u q n _=>by rw [ar (hx b n)]; exact n,fun b u q _=>?_,
  fun b xs q=>by rw [ar (hm b _ q fun z=>z)]; exact q,fun b u xs q=>by rw [ar (hm b _ q fun z=>z)]; exact q,fun b ps q=>⟨#[],by rw [ar (hm b _ q fun z=>z),q]; simp⟩⟩
 by_cases hbe:b=e
 ·subst hbe; exact heo
 ·exact ⟨u,k b u hbe q⟩
end
def AR (h:Heap)(H:Hp):List Addr:=(List.range h.objs.size).filter fun a=>(H a).isSome
def jA (h:Heap)(H:Hp):Heap:=PySem.W.hideAll h (AR h H)
theorem tH (h:Heap)(H:Hp):(jA h H).objs.size=h.objs.size:=PySem.W.hideAll_size _ _
theorem vt {h:Heap}{H:Hp}{b:Addr}{o:Obj}(e:h.get? b=some o)(n:H b=none):(jA h H).get? b=some o :=
 PySem.W.hideAll_get _ e fun hm=>by
  have q:(H b).isSome=true:=(List.mem_filter.mp hm).2
  rw [n] at q; simp at q
theorem w8 {h:Heap}{H:Hp}{b:Addr}{o:Obj}(e:(jA h H).get? b=some o):h.get? b=some o∧H b=none:=by
 have e':h.get? b=some o:=PySem.W.of_hideAll (AR h H) e
 refine ⟨e',?_⟩
 cases q:H b with
 | none=>rfl
 | some x =>
   have hm:b∈AR h H:=List.mem_filter.mpr ⟨List.mem_range.mpr (Heap.lt_size e'),by simp [q]⟩
   have z:(jA h H).get? b=none:=PySem.W.hideAll_none (AR h H) hm
   rw [z] at e; cases e
structure Mod (K:PySem.W.Frag)(mg:Str->Option Value)(base:Heap):Prop where
 kin:K.In base
 glob:base.Ns mainGlobals mg
 blt:∃ mb,base.Ns builtinsNs mb∧∀ x:Str,x ≠ "__name__"->mb x=bootBuiltins x
 nolimit:base.NoLimit
structure Cx where
 prog:Program
 w:World
 K:PySem.W.Frag
 mg:Str->Option Value
 base:Heap
 A:Around
 N:List Str
 s₀:Shared
 H₀:Hp
 env:Env
 outer:List Env
 stack:List Env
 ex:List Addr
 fn:Str->Bool
 calm:Bool
 pn:List (Addr × Obj)
 xe:Value->Shared->Prop
def eQ (l:List Env):List Addr:=l.filterMap (·.frame)
abbrev Cx.fs (X:Cx):List Addr:=eQ X.outer
def AS (sc:Scope)(x:Str):Prop:=sc.names.lookup x=some .local∨sc.names.lookup x=some .cell∨sc.names.lookup x=some .free
def zL (sc:Scope)(x:Str):Prop:=sc.names.lookup x=some .local∨sc.names.lookup x=some .cell
def Bj (env:Env)(h:Heap)(m:Str->Option Value)(x:Str)(u:Value):Prop :=
 (env.kindOf x=some .local∧m x=some u)∨((env.kindOf x=some .cell∨env.kindOf x=some .free)∧∃ c,env.cells.lookup x=some c∧h.IsCell c (some u))
structure Cx.Ok (X:Cx):Prop where
 mod:Mod X.K X.mg X.base
 kind:X.env.scope.kind = .function
 glob:X.env.globals=mainGlobals
 blt:X.env.builtins=builtinsNs
 above:X.s₀.heap.objs.size≤X.env.locals
 inj:∀ x y c,X.env.cells.lookup x=some c->X.env.cells.lookup y=some c->x=y
 has:∀ x,(X.env.kindOf x=some .cell∨X.env.kindOf x=some .free)->∃ c,X.env.cells.lookup x=some c
 cab:∀ x c,X.fn x=true->X.env.cells.lookup x=some c->X.s₀.heap.objs.size≤c
 hd:X.calm=true->X.A.handled=none
 frames:X.A.frames=some X.stack
 stk:X.stack=X.outer∨(X.stack=X.env :: X.outer∧X.env.frame=some X.env.locals)
 exf:∀ b∈X.ex,b≠X.env.locals∧∀ x c,X.env.cells.lookup x=some c->c≠b
 bs:∀ b o,X.base.get? b=some o->X.s₀.heap.get? b=some o∧X.H₀ b=none
 bsz:X.base.objs.size≤X.s₀.heap.objs.size
 noex:∀ b o,X.base.get? b=some o->b ∉ X.ex
 exfs:∀ b∈X.ex,b ∉ X.fs
 funs:X.s₀.heap.FunFrames X.base X.outer
 frf:∀ b∈X.fs,X.H₀ b=none
structure Inv (X:Cx)(pins:List (Addr × Obj))(σ:List (Option V))(H:Hp)(s:Shared):Prop where
 ok:X.Ok
 os:s.os=X.s₀.os
 bare:AllBare s.gens
 base:Un X.fs X.ex X.H₀ H X.s₀.heap s.heap
 loc:∃ m,s.heap.Ns X.env.locals m∧∀ (i:Nat)(x:Str)(v:V),X.N[i]?=some x->σ[i]?=some (some v)->AS X.env.scope x->∃ u,aC v u∧Bj X.env s.heap m x u
 cell:∀ x c,X.env.cells.lookup x=some c->∃ v,s.heap.IsCell c v
 free:H X.env.locals=none
 freeC:∀ x c,X.env.cells.lookup x=some c->H c=none
 pin:∀ p∈X.pn++pins,s.heap.get? p.1=some p.2∧H p.1=none∧p.1≠X.env.locals∧p.1 ∉ X.fs∧∀ v,p.2.data ≠ .cell v
 hok:dY X.prog X.w H s.heap
 len:σ.length=X.N.length
section
variable {X:Cx}{pins:List (Addr × Obj)}{σ:List (Option V)}{H H':Hp}{s:Shared}{h':Heap}
theorem Cx.Ok.nofr (ok:X.Ok){b:Addr}{o:Obj}(e:X.base.get? b=some o):b ∉ X.fs:=fun hb=>by
 have:=(ok.funs.mem hb).1
 rw [e] at this; cases this
theorem Inv.bs (I:Inv X pins σ H s):∀ b o,X.base.get? b=some o->s.heap.get? b=some o∧H b=none:=fun b o e =>
 ⟨I.base.keep b o (I.ok.bs b o e).1 (I.ok.bs b o e).2 (I.ok.nofr e) (I.ok.noex b o e),I.base.free b o (I.ok.bs b o e).1 (I.ok.bs b o e).2 (I.ok.noex b o e)⟩
theorem Inv.bk (I:Inv X pins σ H s):∀ b o,X.base.get? b=some o->s.heap.get? b=some o:=fun b o e=>(I.bs b o e).1
theorem Inv.mod (I:Inv X pins σ H s):Mod X.K X.mg X.base:=I.ok.mod
theorem Inv.kIn (I:Inv X pins σ H s):X.K.In s.heap:=I.ok.mod.kin.keeps I.bk
theorem Inv.fr (I:Inv X pins σ H s):∃ m,Fr X.base X.env.locals s.heap m :=
 let ⟨m,hn,_⟩:=I.loc
 ⟨m,hn,I.bk,Nat.le_trans I.ok.bsz I.ok.above⟩
theorem Inv.lt (I:Inv X pins σ H s):X.env.locals < s.heap.objs.size:=let ⟨_,hn,_⟩:=I.loc; hn.lt
theorem Inv.sz (I:Inv X pins σ H s):X.s₀.heap.objs.size≤s.heap.objs.size:=Nat.le_trans I.ok.above (Nat.le_of_lt I.lt)
theorem Inv.nofs (I:Inv X pins σ H s){a:Addr}(h:s.heap.objs.size≤a):a ∉ X.fs:=fun hb=>by
 obtain ⟨_,o,ho,_⟩:=I.ok.funs.mem hb
 exact absurd (Nat.lt_of_lt_of_le (Heap.lt_size ho) (Nat.le_trans I.sz h)) (Nat.lt_irrefl _)
theorem Inv.cne (I:Inv X pins σ H s):∀ x c,X.env.cells.lookup x=some c->c≠X.env.locals:=fun x c e z=>by
 obtain ⟨v,o,ho,hd⟩:=I.cell x c e
 obtain ⟨m,⟨o',es,ep,ho',hd',_⟩,_⟩:=I.loc
 rw [z,ho'] at ho; cases ho; rw [hd'] at hd; cases hd
theorem Inv.funs (I:Inv X pins σ H s):s.heap.FunFrames X.base X.outer:=by
 have all:∀ (l:List Env),(∀ b∈eQ l,b∈X.fs)->X.s₀.heap.FunFrames X.base l->s.heap.FunFrames X.base l:=by
  intro l
  induction l with
  | nil=>intro _ _; trivial
  | cons env r ih =>
    intro hs hl
    obtain ⟨hk,⟨L,o,hf,hn,ho,hd⟩,hr⟩:=hl
    have hL:L∈X.fs:=hs L (by unfold eQ; rw [List.filterMap_cons,hf]; exact List.mem_cons_self)
    obtain ⟨sl,e⟩:=I.base.slot L o ho (I.ok.frf L hL) hL fun z=>I.ok.exfs L z hL
    exact ⟨hk,⟨L,_,hf,hn,e,hd⟩,ih (fun b hb=>hs b (by unfold eQ; rw [List.filterMap_cons,hf]; exact List.mem_cons_of_mem _ hb)) hr⟩
 exact all X.outer (fun _ hb=>hb) I.ok.funs
theorem Inv.stack (I:Inv X pins σ H s):s.heap.FunFrames X.base X.stack:=by
 rcases I.ok.stk with e | ⟨e,hf⟩
 ·rw [e]; exact I.funs
 ·rw [e]
  obtain ⟨m,hn,_⟩:=I.loc
  refine .cons (by rw [I.ok.kind]; decide) hf hn ?_ I.funs
  exact Heap.get?_none_of_le (Nat.le_trans I.ok.bsz I.ok.above)
theorem Inv.stkSub (I:Inv X pins σ H s):∀ b∈eQ X.stack,b∈X.env.locals :: X.fs:=fun b hb=>by
 rcases I.ok.stk with e | ⟨e,hf⟩
 ·rw [e] at hb; exact List.mem_cons_of_mem _ hb
 ·rw [e] at hb
  unfold eQ at hb
  rw [List.filterMap_cons,hf] at hb
  exact hb
theorem Inv.stkFree (I:Inv X pins σ H s):∀ b∈eQ X.stack,H b=none:=fun b hb=>by
 rcases List.mem_cons.mp (I.stkSub b hb) with e | hb
 ·rw [e]; exact I.free
 ·obtain ⟨_,o,ho,_⟩:=I.ok.funs.mem hb
  exact I.base.free b o ho (I.ok.frf b hb) fun z=>I.ok.exfs b z hb
theorem Inv.step {g':Array GenState}{t':Nat}{d':Drawn}{ch:List Addr}(I:Inv X pins σ H s)
 (hch:∀ b∈ch,(b∈X.ex∨X.s₀.heap.objs.size≤b)∧b≠X.env.locals∧(∀ x c,X.env.cells.lookup x=some c->c≠b)∧∀ p∈X.pn++pins,p.1≠b)
 (keep:∀ b o,b≠X.env.locals->b ∉ X.fs->b ∉ ch->s.heap.get? b=some o->H b=none->h'.get? b=some o)
 (slot:∀ b o,b≠X.env.locals->b∈X.fs->b ∉ ch->s.heap.get? b=some o->H b=none->∃ sl,h'.get? b=some { o with slots:=sl })(free:∀ b o,b ∉ ch->s.heap.get? b=some o->H b=none->H' b=none)
 (there:∀ b o,b ∉ ch->s.heap.get? b=some o->∃ o',h'.get? b=some o')
 (tups:∀ b xs,H b=some (.tup xs)->H' b=some (.tup xs))(frzs:∀ b o u,H b=some (.frz o u)->H' b=some (.frz o u))(tbls:∀ b ps,H b=some (.tbl ps)->∃ more,H' b=some (.tbl (ps++more)))
 (ns:∀ m,s.heap.Ns X.env.locals m->h'.Ns X.env.locals m)(hok:dY X.prog X.w H' h')(hg:AllBare g'):
 Inv X pins σ H' { s with heap:=h',gens:=g',drawn:=d',toks:=t' }:=by
 have neL:∀ b o,X.s₀.heap.get? b=some o->b≠X.env.locals:=fun b o e=>Nat.ne_of_lt (Nat.lt_of_lt_of_le (Heap.lt_size e) I.ok.above)
 have neC:∀ b o,X.s₀.heap.get? b=some o->b ∉ X.ex->b ∉ ch:=fun b o e hx hb=>by
  rcases (hch b hb).1 with z | z
  ·exact hx z
  ·exact absurd (Nat.lt_of_lt_of_le (Heap.lt_size e) z) (Nat.lt_irrefl _)
 have cellK:∀ x c,X.env.cells.lookup x=some c->∀ v,s.heap.IsCell c v->h'.IsCell c v:=fun x c e v ⟨o,ho,hd⟩=>by
  have nch:c ∉ ch:=fun z=>(hch c z).2.2.1 x c e rfl
  by_cases hc:c∈X.fs
  ·obtain ⟨sl,q⟩:=slot c o (I.cne x c e) hc nch ho (I.freeC x c e)
   exact ⟨_,q,hd⟩
  ·exact ⟨o,keep c o (I.cne x c e) hc nch ho (I.freeC x c e),hd⟩
 refine ⟨I.ok,I.os,hg,⟨fun b o e n hb hx=>?_,fun b o e n hb hx=>?_,fun b o e n hx=>?_,fun b o e hx=>?_,fun b xs e=>tups b xs (I.base.tups b xs e),fun b o xs e=>frzs b o xs (I.base.frzs b o xs e),fun b ps e=>?_⟩,?_,fun x c e=>?_,?_,fun x c e=>?_,fun p hp=>?_,hok,I.len⟩
 ·exact keep b o (neL b o e) hb (neC b o e hx) (I.base.keep b o e n hb hx) (I.base.free b o e n hx)
 ·obtain ⟨sl,e1⟩:=I.base.slot b o e n hb hx
  obtain ⟨sl',e2⟩:=slot b _ (neL b o e) hb (neC b o e hx) e1 (I.base.free b o e n hx)
  exact ⟨sl',e2⟩
 ·obtain ⟨o',e1⟩:=I.base.there b o e hx
  exact free b o' (neC b o e hx) e1 (I.base.free b o e n hx)
 ·obtain ⟨o',e1⟩:=I.base.there b o e hx
  exact there b o' (neC b o e hx) e1
 ·obtain ⟨m1,e1⟩:=I.base.tbls b ps e
  obtain ⟨m2,e2⟩:=tbls b _ e1
  exact ⟨m1++m2,by rw [e2,Array.append_assoc]⟩
 ·obtain ⟨m,hn,hl⟩:=I.loc
  refine ⟨m,ns m hn,fun i x v e1 e2 e3=>?_⟩
  obtain ⟨u,r,l⟩:=hl i x v e1 e2 e3
  refine ⟨u,r,?_⟩
  rcases l with l | ⟨k,c,e,z⟩
  ·exact .inl l
  ·exact .inr ⟨k,c,e,cellK x c e _ z⟩
 ·obtain ⟨v,z⟩:=I.cell x c e
  exact ⟨v,cellK x c e v z⟩
 ·obtain ⟨m,⟨o,_,_,ho,_⟩,_⟩:=I.loc
  exact free _ o (fun z=>(hch _ z).2.1 rfl) ho I.free
 ·obtain ⟨v,o,ho,hd⟩:=I.cell x c e
  exact free c o (fun z=>(hch c z).2.2.1 x c e rfl) ho (I.freeC x c e)
 ·obtain ⟨e,n,ne,nf,d⟩:=I.pin p hp
  have nch:p.1 ∉ ch:=fun z=>(hch p.1 z).2.2.2 p hp rfl
  exact ⟨keep p.1 p.2 ne nf nch e n,free p.1 p.2 nch e n,ne,nf,d⟩
theorem Inv.un {t':Nat}(I:Inv X pins σ H s)(u:Un X.fs [] H H' s.heap h')(hok:dY X.prog X.w H' h'):Inv X pins σ H' { s with heap:=h',toks:=t' }:=by
 obtain ⟨m,⟨o,es,ep,ho,r⟩,_⟩:=id I.loc
 obtain ⟨sl,hL⟩:=u.any ho I.free (by simp)
 exact I.step (g':=s.gens) (d':=s.drawn) (ch:=[]) (fun _ z=>nomatch z) (fun b o _ hb _ e n=>u.keep b o e n hb (by simp)) (fun b o _ hb _ e n=>u.slot b o e n hb (by simp)) (fun b o _ e n=>u.free b o e n (by simp)) (fun b o _ e=>u.there b o e (by simp)) u.tups u.frzs u.tbls (fun m' hm=>by
  obtain ⟨o',es',ep',ho',r'⟩:=hm
  rw [ho] at ho'; cases ho'
  exact ⟨_,es',ep',hL,r'⟩) hok I.bare
theorem Inv.call {g':Array GenState}{t':Nat}{d':Drawn}{ch:List Addr}(I:Inv X pins σ H s)(u:Un (eQ X.stack) ch H H' s.heap h')(hok:dY X.prog X.w H' h')(hg:AllBare g')
 (hch:∀ b∈ch,(b∈X.ex∨X.s₀.heap.objs.size≤b)∧b≠X.env.locals∧(∀ x c,X.env.cells.lookup x=some c->c≠b)∧∀ p∈X.pn++pins,p.1≠b):
 Inv X pins σ H' { s with heap:=h',gens:=g',drawn:=d',toks:=t' }:=by
 obtain ⟨m,⟨o,es,ep,ho,r⟩,_⟩:=id I.loc
 obtain ⟨sl,hL⟩:=u.any ho I.free fun z=>(hch _ z).2.1 rfl
 exact I.step (ch:=ch) hch (fun b o hL hb hc e n=>u.keep b o e n (fun z=>(List.mem_cons.mp (I.stkSub b z)).elim hL hb) hc) (fun b o _ _ hc e n=>u.any e n hc) (fun b o hc e n=>u.free b o e n hc) (fun b o hc e=>u.there b o e hc) u.tups u.frzs u.tbls (fun m' hm=>by
  obtain ⟨o',es',ep',ho',r'⟩:=hm
  rw [ho] at ho'; cases ho'
  exact ⟨_,es',ep',hL,r'⟩) hok hg
theorem Inv.turned {t':Nat}{it:Addr}(I:Inv X pins σ H s)(k:∀ b o,b≠it->s.heap.get? b=some o->h'.get? b=some o)(hn:H it=none)(hL:it≠X.env.locals)
 (h1:it∈X.ex∨X.s₀.heap.objs.size≤it)(h2:∀ x c,X.env.cells.lookup x=some c->c≠it)(h3:∀ p∈X.pn++pins,p.1≠it):Inv X pins σ H { s with heap:=h',toks:=t' }:=by
 have nit:∀ b u,H b=some u->b≠it:=fun b u e z=>by rw [z,hn] at e; cases e
 refine I.step (g':=s.gens) (d':=s.drawn) (ch:=[it]) (fun b hb=>?_) (fun b o _ _ hc e _=>k b o (fun z=>hc (by simp [z])) e) (fun b o _ _ hc e _=>⟨o.slots,k b o (fun z=>hc (by simp [z])) e⟩) (fun _ _ _ _ n=>n)
  (fun b o hc e=>⟨o,k b o (fun z=>hc (by simp [z])) e⟩) (fun _ _ e=>e) (fun _ _ _ e=>e) (fun b ps e=>⟨#[],by rw [e]; simp⟩) (fun m hm=>?_) (fun b u e=>?_) I.bare
 ·have e:b=it:=by simpa using hb
  subst e
  exact ⟨h1,hL,h2,h3⟩
 ·obtain ⟨o,es,ep,ho,r⟩:=hm
  exact ⟨o,es,ep,k _ o (Ne.symm hL) ho,r⟩
 ·refine (I.hok b u e).stay (fun c v hc q=>k c v ?_ q) (fun _ q=>q) fun _ _ q=>q
  rcases hc with z | z
  ·rw [z]; exact nit b u e
  ·exact nit c _ z
theorem Inv.tok (I:Inv X pins σ H s)(t:Nat):Inv X pins σ H { s with toks:=t }:=I.un (h':=s.heap) (t':=t) Un.refl I.hok
theorem Inv.kept {t':Nat}(I:Inv X pins σ H s)(k:∀ b u,s.heap.get? b=some u->h'.get? b=some u):Inv X pins σ H { s with heap:=h',toks:=t' }:=I.un (Un.kept k) (I.hok.kept k)
theorem Inv.laid {a:Addr}{o:HO}{t':Nat}(I:Inv X pins σ H s)(k:∀ b u,s.heap.get? b=some u->h'.get? b=some u)(hp:s.heap.objs.size≤a)(new:a8 X.prog X.w (upd H a o) h' a o):
 Inv X pins σ (upd H a o) { s with heap:=h',toks:=t' }:=I.un (Un.laid k hp (I.hok.fresh hp)) (I.hok.laid k hp new)
theorem Inv.write {x e:Addr}{o:HO}{t':Nat}(I:Inv X pins σ H s)(mu:zU (H x))(he:e=x∨H e=some (.own x))(k:∀ b u,b≠e->s.heap.get? b=some u->h'.get? b=some u)(heo:∃ u,h'.get? e=some u)
 (new:a8 X.prog X.w (upd H x o) h' x o):Inv X pins σ (upd H x o) { s with heap:=h',toks:=t' }:=I.un (Un.write mu he k heo) (I.hok.write mu he k heo new)
theorem Inv.pins_of {pins':List (Addr × Obj)}(I:Inv X pins σ H s)(h:∀ p∈pins',s.heap.get? p.1=some p.2∧H p.1=none∧p.1≠X.env.locals∧p.1 ∉ X.fs∧∀ v,p.2.data ≠ .cell v):Inv X pins' σ H s :=
 ⟨I.ok,I.os,I.bare,I.base,I.loc,I.cell,I.free,I.freeC,fun p hp=>(List.mem_append.mp hp).elim (fun z=>I.pin p (List.mem_append_left _ z)) (h p),I.hok,I.len⟩
theorem nC {N:List Str}(hN:N.Nodup){i j:Nat}{x:Str}(a:N[i]?=some x)(b:N[j]?=some x):i=j:=by
 obtain ⟨h1,e1⟩:=List.getElem?_eq_some_iff.mp a
 obtain ⟨h2,e2⟩:=List.getElem?_eq_some_iff.mp b
 exact (List.getElem_inj hN).mp (e1.trans e2.symm)
theorem jH {M:Model}{A:Around}{E:Value->Shared->Prop}{i:Nat}{x:Str}{v:V}{u:Value}{Q:Unit->Shared->Prop}(I:Inv X pins σ H s)(hN:X.N.Nodup)(hi:X.N[i]?=some x)(hx:zL X.env.scope x)(r:aC v u)
 (h:∀ s',Inv X pins (σ.set i (some v)) H s'->(∃ a,Heap.SameBut a s.heap s'.heap∧(a=X.env.locals∨X.env.cells.lookup x=some a))->Q () s')(hf:X.fn x=true∨X.env.scope.names.lookup x=some .local:=by first | exact .inl rfl | exact .inr rfl | assumption):wpAny M A (storeName X.env x u) Q E s:=by
 obtain ⟨m,hn,hl⟩:=id I.loc
 have hcls:(X.env.scope.kind == .class || (X.env.scope.kind == .module&&X.env.locals != X.env.globals))=false:=by rw [I.ok.kind]; rfl
 have hiσ:i < σ.length:=by rw [I.len]; exact (List.getElem?_eq_some_iff.mp hi).1
 have cne:=I.cne
 have tracked:∀ {a:Addr}{h':Heap},(∃ o,s.heap.get? a=some o∧H a=none)->Heap.SameBut a s.heap h'->dY X.prog X.w H h':=fun {a h'} ha hs b ob e=>by
  obtain ⟨_,_,hfree⟩:=ha
  refine (I.hok b ob e).stay (fun c w' hc q=>(hs.2 c ?_).trans q) (fun _ q=>q) fun _ _ q=>q
  rintro rfl
  rcases hc with rfl | hc
  ·rw [hfree] at e; cases e
  ·rw [hfree] at hc; cases hc
 rcases hx with hk | hk
 ·refine wpAny_storeName_local hk hn (fun h' hn' hs=>?_) hcls
  obtain ⟨oL,_,_,hoL,_⟩:=id hn
  refine h _ ⟨I.ok,I.os,I.bare,⟨fun b o e n hb hx=>?_,fun b o e n hb hx=>?_,I.base.free,fun b o e hx=>?_,I.base.tups,I.base.frzs,I.base.tbls⟩,⟨_,hn',fun j y v' e1 e2 e3=>?_⟩,fun y c e=>?_,I.free,I.freeC,fun p hp=>?_,tracked ⟨oL,hoL,I.free⟩ hs,by simpa using I.len⟩ ⟨_,hs,.inl rfl⟩
  ·exact (hs.2 b (Nat.ne_of_lt (Nat.lt_of_lt_of_le (Heap.lt_size e) I.ok.above))).trans (I.base.keep b o e n hb hx)
  ·obtain ⟨sl,e1⟩:=I.base.slot b o e n hb hx
   exact ⟨sl,(hs.2 b (Nat.ne_of_lt (Nat.lt_of_lt_of_le (Heap.lt_size e) I.ok.above))).trans e1⟩
  ·obtain ⟨o',e1⟩:=I.base.there b o e hx
   exact ⟨o',(hs.2 b (Nat.ne_of_lt (Nat.lt_of_lt_of_le (Heap.lt_size e) I.ok.above))).trans e1⟩
  ·by_cases hj:j=i
   ·subst hj
    rw [hi] at e1; cases e1
    rw [List.getElem?_set_self hiσ] at e2
    cases e2
    exact ⟨u,r,.inl ⟨hk,by simp⟩⟩
   ·rw [List.getElem?_set_ne (Ne.symm hj)] at e2
    obtain ⟨u',r',q⟩:=hl j y v' e1 e2 e3
    refine ⟨u',r',?_⟩
    rcases q with ⟨k,e⟩ | ⟨k,c,e,z⟩
    ·refine .inl ⟨k,?_⟩
     have:y≠x:=fun e=>hj (nC hN e1 (e ▸ hi))
     simp [this,e]
    ·exact .inr ⟨k,c,e,z.sameBut hs (cne y c e)⟩
  ·obtain ⟨w',z⟩:=I.cell y c e
   exact ⟨w',z.sameBut hs (cne y c e)⟩
  ·obtain ⟨e,n,ne,nf,d⟩:=I.pin p hp
   exact ⟨(hs.2 p.1 ne).trans e,n,ne,nf,d⟩
 ·have hfn:X.fn x=true:=by
   rcases hf with z | z
   ·exact z
   ·rw [z] at hk; cases hk
  obtain ⟨c,hc⟩:=I.ok.has x (.inl hk)
  obtain ⟨w',z⟩:=I.cell x c hc
  refine wpAny_storeName_cell I.ok.kind hk hc z (fun h' hc' hs=>?_)
  obtain ⟨oc,hoc,hocd⟩:=id z
  refine h { s with heap:=h' } ⟨I.ok,I.os,I.bare,⟨fun b o e n hb hx=>?_,fun b o e n hb hx=>?_,I.base.free,fun b o e hx=>?_,I.base.tups,I.base.frzs,I.base.tbls⟩,⟨m,hn.sameBut hs (Ne.symm (cne x c hc)),fun j y v' e1 e2 e3=>?_⟩,fun y c' e=>?_,I.free,I.freeC,fun p hp=>?_,tracked ⟨oc,hoc,I.freeC x c hc⟩ hs,by simpa using I.len⟩ ⟨c,hs,.inr hc⟩
  ·exact (hs.2 b (Nat.ne_of_lt (Nat.lt_of_lt_of_le (Heap.lt_size e) (I.ok.cab x c hfn hc)))).trans (I.base.keep b o e n hb hx)
  ·obtain ⟨sl,e1⟩:=I.base.slot b o e n hb hx
   exact ⟨sl,(hs.2 b (Nat.ne_of_lt (Nat.lt_of_lt_of_le (Heap.lt_size e) (I.ok.cab x c hfn hc)))).trans e1⟩
  ·obtain ⟨o',e1⟩:=I.base.there b o e hx
   exact ⟨o',(hs.2 b (Nat.ne_of_lt (Nat.lt_of_lt_of_le (Heap.lt_size e) (I.ok.cab x c hfn hc)))).trans e1⟩
  ·by_cases hj:j=i
   ·subst hj
    rw [hi] at e1; cases e1
    rw [List.getElem?_set_self hiσ] at e2
    cases e2
    exact ⟨u,r,.inr ⟨.inl hk,c,hc,hc'⟩⟩
   ·rw [List.getElem?_set_ne (Ne.symm hj)] at e2
    obtain ⟨u',r',q⟩:=hl j y v' e1 e2 e3
    refine ⟨u',r',?_⟩
    rcases q with q | ⟨k,c',e,z'⟩
    ·exact .inl q
    ·refine .inr ⟨k,c',e,z'.sameBut hs ?_⟩
     rintro rfl
     exact hj (nC hN e1 (I.ok.inj _ _ _ e hc ▸ hi))
  ·by_cases hcc:c'=c
   ·subst hcc; exact ⟨_,hc'⟩
   ·obtain ⟨w2,z2⟩:=I.cell y c' e
    exact ⟨w2,z2.sameBut hs hcc⟩
  ·obtain ⟨e,n,ne,nf,d⟩:=I.pin p hp
   refine ⟨(hs.2 p.1 ?_).trans e,n,ne,nf,d⟩
   intro q
   rw [q,hoc] at e
   have q':oc=p.2:=Option.some.inj e
   exact d w' (by rw [← q']; exact hocd)
theorem fH {M:Model}{A:Around}{E:Value->Shared->Prop}{i:Nat}{x:Str}{v:V}{u:Value}{Q:Unit->Shared->Prop}(I:Inv X pins σ H s)(hN:X.N.Nodup)(hi:X.N[i]?=some x)(hx:zL X.env.scope x)(r:aC v u)
 (h:∀ s',Inv X pins (σ.set i (some v)) H s'->Q () s')(hf:X.fn x=true∨X.env.scope.names.lookup x=some .local:=by first | exact .inl rfl | exact .inr rfl | assumption):wpAny M A (storeName X.env x u) Q E s :=
 jH I hN hi hx r (fun s' I' _=>h s' I') hf
theorem Inv.call' {s':Shared}{ch:List Addr}(I:Inv X pins σ H s)(ho:s'.os=s.os)(u:Un (eQ X.stack) ch H H' s.heap s'.heap)(hok:dY X.prog X.w H' s'.heap)(hg:AllBare s'.gens)
 (hch:∀ b∈ch,(b∈X.ex∨X.s₀.heap.objs.size≤b)∧b≠X.env.locals∧(∀ x c,X.env.cells.lookup x=some c->c≠b)∧∀ p∈X.pn++pins,p.1≠b):Inv X pins σ H' s':=by
 obtain ⟨h',g',d',t',o'⟩:=s'
 have e:o'=s.os:=ho
 subst e
 exact I.call (g':=g') (t':=t') (d':=d') u hok hg hch
end
abbrev XK:=Value->Option Addr->Hp->Prop
abbrev St:=List (Option V)
abbrev VK:=V->Hp->Prop
abbrev TE:=St->Hp->VK->Prop
abbrev TT:=St->Hp->(Bool->Hp->Prop)->Prop
abbrev TA:=St->Hp->(List V->Hp->Prop)->Prop
structure Ends where
 nx:St->Hp->Prop
 rt:VK
 bk:St->Hp->Prop:=fun _ _=>False
 ct:St->Hp->Prop:=fun _ _=>False
abbrev TS:=Ends->St->Hp->Prop
def EP (X:Cx)(pins:List (Addr × Obj))(σ:St)(Q:VK)(u:Value)(s':Shared):Prop:=∃ v H',Inv X pins σ H' s'∧aC v u∧Q v H'
def TP (X:Cx)(pins:List (Addr × Obj))(σ:St)(Q:Bool->Hp->Prop)(b:Bool)(s':Shared):Prop:=∃ H',Inv X pins σ H' s'∧Q b H'
def AP (X:Cx)(pins:List (Addr × Obj))(σ:St)(Q:List V->Hp->Prop)(us:List Value)(s':Shared):Prop:=∃ vs H',Inv X pins σ H' s'∧aI vs us∧Q vs H'
def SP (X:Cx)(pins:List (Addr × Obj))(D:Ends)(f:Flow)(s':Shared):Prop :=
 match f with
 | .next=>∃ σ' H',Inv X pins σ' H' s'∧D.nx σ' H'
 | .brk=>∃ σ' H',Inv X pins σ' H' s'∧D.bk σ' H'
 | .cont=>∃ σ' H',Inv X pins σ' H' s'∧D.ct σ' H'
 | .ret u=>∃ v σ' H',Inv X pins σ' H' s'∧aC v u∧D.rt v H'
def PE (X:Cx)(e:Expr)(t:TE):Prop :=
 ∀ (pins:List (Addr × Obj))(s:Shared)(σ:St)(H:Hp)(Q:VK),Inv X pins σ H s->t σ H Q->wpAny (model X.prog X.w) X.A (eval e X.env) (EP X pins σ Q) X.xe s
def PT (X:Cx)(e:Expr)(t:TT):Prop :=
 ∀ (pins:List (Addr × Obj))(s:Shared)(σ:St)(H:Hp)(Q:Bool->Hp->Prop),Inv X pins σ H s->t σ H Q->wpAny (model X.prog X.w) X.A (isTrue e X.env (eval e X.env)) (TP X pins σ Q) X.xe s
def PW (X:Cx)(e:Expr)(t:TT):Prop :=
 ∀ (cX:Sem Value)(pins:List (Addr × Obj))(s:Shared)(σ:St)(H:Hp)(Q:Bool->Hp->Prop),Inv X pins σ H s->t σ H Q->wpAny (model X.prog X.w) X.A (isTrue e X.env cX) (TP X pins σ Q) X.xe s
theorem PW.pt {X:Cx}{e:Expr}{t:TT}(h:PW X e t):PT X e t:=h _
def PA (X:Cx)(es:List Expr)(t:TA):Prop :=
 ∀ (pos:Pos)(pins:List (Addr × Obj))(s:Shared)(σ:St)(H:Hp)(Q:List V->Hp->Prop),Inv X pins σ H s->t σ H Q->wpAny (model X.prog X.w) X.A (spliced (backTo pos (starEach es X.env))) (AP X pins σ Q) X.xe s
def PS (X:Cx)(st:Stmt)(t:TS):Prop :=
 ∀ (pins:List (Addr × Obj))(s:Shared)(σ:St)(H:Hp)(D:Ends),Inv X pins σ H s->t D σ H->wpAny (model X.prog X.w) X.A (exec st X.env) (SP X pins D) X.xe s
def ju (X:Cx)(st:List Stmt)(t:TS):Prop :=
 ∀ (pins:List (Addr × Obj))(s:Shared)(σ:St)(H:Hp)(D:Ends),Inv X pins σ H s->t D σ H->wpAny (model X.prog X.w) X.A (execs st X.env) (SP X pins D) X.xe s
theorem br {α:Type}{t:Sem α}{Q Q':α->Shared->Prop}{M:Model}{A:Around}{E:Value->Shared->Prop}{s:Shared}(h:wpAny M A t Q E s)(hQ:∀ a s,Q a s->Q' a s):wpAny M A t Q' E s:=wpAny_mono h hQ fun _ _ x=>x
section
variable {X:Cx}
def dJ (i:Nat):TE:=fun σ H Q=>∃ v,σ[i]?=some (some v)∧Q v H
def tC (v:V):TE:=fun _ H Q=>Q v H
theorem yK {i:Nat}{x:Str}{pos:Pos}(hN:X.N[i]?=some x)(hv:AS X.env.scope x)(hd:(x == ("__debug__":Str))=false:=by decide)(hcd:(x == ("__classdict__":Str))=false:=by decide):PE X (.Name x pos) (dJ i):=by
 intro pins s σ H Q I h
 obtain ⟨v,e,h⟩:=h
 obtain ⟨m,hn,hl⟩:=I.loc
 obtain ⟨u,r,l⟩:=hl i x v hN e hv
 have fin:EP X pins σ Q u s:=⟨v,H,I,r,h⟩
 rcases l with ⟨hk,hm⟩ | ⟨hk,c,hc,hcell⟩
 ·exact wpAny_Name (wpAny_loadName_local I.ok.kind hk hn hm fin) hd
 ·rcases hk with hk | hk
  ·exact wpAny_Name (wpAny_loadName_cell I.ok.kind hk hc hcell fin) hd
  ·exact wpAny_Name (wpAny_loadName_free I.ok.kind hk hc hcell fin hcd) hd
theorem ah {i j pos}:PE X (.Constant (.int i) j pos) (tC (.int i)):=fun _ _ _ H _ I h=>wpAny_Constant_int ⟨.int i,H,I.tok _,⟨_,rfl⟩,h⟩
theorem gI {b j pos}:PE X (.Constant (.bool b) j pos) (tC (.bl b)):=fun _ _ _ H _ I h=>Constant_bool ⟨.bl b,H,I,rfl,h⟩
theorem zr {j pos}:PE X (.Constant .none j pos) (tC .non):=fun _ _ _ H _ I h=>Constant_none ⟨.non,H,I,rfl,h⟩
theorem aU {x j pos}:PE X (.Constant (.str x) j pos) (tC (.str x)):=fun _ _ _ H _ I h=>Calls.Constant_str ⟨.str x,H,I.tok _,⟨_,rfl⟩,h⟩
def Gl (X:Cx)(x:Str):Prop:=X.env.kindOf x=some .globalImplicit
theorem d9 {E:Value->Shared->Prop}{pins:List (Addr × Obj)}{s:Shared}{σ:St}{H:Hp}{x:Str}{u:Value}{pos:Pos}{Q:Value->Shared->Prop}(I:Inv X pins σ H s)(hg:Gl X x)(hm:X.mg x=some u)(h:Q u s)
 (hd:(x == ("__debug__":Str))=false:=by decide):wpAny (model X.prog X.w) X.A (eval (.Name x pos) X.env) Q E s :=
 Calls.Name_function_global I.ok.kind hg (Calls.loadGlobal_global (by rw [I.ok.glob]; exact I.mod.glob.keeps I.bk) hm h) hd
theorem dH {E:Value->Shared->Prop}{pins:List (Addr × Obj)}{s:Shared}{σ:St}{H:Hp}{x:Str}{u:Value}{pos:Pos}{Q:Value->Shared->Prop}(I:Inv X pins σ H s)(hg:Gl X x)(hm:X.mg x=none)(hv:bootBuiltins x=some u)(h:Q u s)
 (hn:x ≠ "__name__":=by decide)(hd:(x == ("__debug__":Str))=false:=by decide):wpAny (model X.prog X.w) X.A (eval (.Name x pos) X.env) Q E s:=by
 obtain ⟨mb,h1,h2⟩:=I.mod.blt
 exact Calls.Name_function_global I.ok.kind hg (Calls.loadGlobal_builtin (by rw [I.ok.glob]; exact I.mod.glob.keeps I.bk) hm (by rw [I.ok.blt]; exact h1.keeps I.bk) ((h2 x hn).trans hv) h) hd
theorem cj {x:Str}{v:V}{u:Value}{pos:Pos}(hg:Gl X x)(hm:X.mg x=some u)(r:aC v u)(hd:(x == ("__debug__":Str))=false:=by decide):PE X (.Name x pos) (tC v):=
 fun _ _ _ H _ I h=>d9 I hg hm ⟨v,H,I,r,h⟩ hd
theorem eu {x:Str}{v:V}{u:Value}{pos:Pos}(hg:Gl X x)(hm:X.mg x=none)(hv:bootBuiltins x=some u)(r:aC v u)(hn:x ≠ "__name__":=by decide)(hd:(x == ("__debug__":Str))=false:=by decide):PE X (.Name x pos) (tC v):=
 fun _ _ _ H _ I h=>dH I hg hm hv ⟨v,H,I,r,h⟩ hn hd
variable {a b:Expr}{ta tb:TE}{pos:Pos}
def PC (X:Cx)(op:CmpOp)(a b:Expr)(t:TE):Prop :=
 ∀ (pins:List (Addr × Obj))(s:Shared)(σ:St)(H:Hp)(Q:VK),Inv X pins σ H s->t σ H Q →
   wpAny (model X.prog X.w) X.A (eval a X.env) (fun v s₁=>wpAny (model X.prog X.w) X.A (eval b X.env) (fun u s₂=>wpAny (model X.prog X.w) X.A (compareOp op v u) (EP X pins σ Q) X.xe s₂) X.xe s₁) X.xe s
def tB (t:TE):TT:=fun σ H Q=>t σ H fun x H1=>∃ c,x = .bl c∧Q c H1
theorem y7 {op:CmpOp}{t:TE}(h:PC X op a b t)(h1:behindInMarks op b=false:=by first | exact nobehind _ (by decide) (by decide) | rfl):PT X (.Compare a [op] [b] pos) (tB t):=by
 intro pins s σ H Q I hw
 refine wpAny_isTrue_Compare1 (br (h pins s σ H _ I hw) fun v s1 h1=>br h1 fun u s2 h2=>br h2 fun c s3 ⟨x,H1,I1,r1,q1⟩=>?_) h1
 obtain ⟨d,rfl,q⟩:=q1
 cases r1
 exact wpAny_truthy_bool ⟨H1,I1,q⟩
theorem c7 {e:Expr}{t:TE}(h:PE X e t)(he:∀ cX,isTrue e X.env cX=(do let v ← cX; standAt e.pos; holding [v] (truthy v)):=by intro _; rfl):PT X e (tB t):=by
 intro pins s σ H Q I hw
 refine isTrue_plain (br (h pins s σ H _ I hw) fun v s1 ⟨x,H1,I1,r1,q1⟩=>?_) (he _)
 obtain ⟨d,rfl,q⟩:=q1
 cases r1
 exact wpAny_truthy_bool ⟨H1,I1,q⟩
variable {tA tB':TT}{rest:List Expr}
def AZ (t u:TT):TT:=fun σ H Q=>t σ H fun c H1=>if c=true then u σ H1 Q else Q false H1
def B0 (t u:TT):TT:=fun σ H Q=>t σ H fun c H1=>if c=true then Q true H1 else u σ H1 Q
def Ba (t:TT):TT:=fun σ H Q=>t σ H fun c H1=>Q (!c) H1
theorem wM (ha:PT X a tA):PW X (.BoolOp .And [a] pos) tA:=by
 intro wh pins s σ H Q I h
 refine isTrue_and (br (ha pins s σ H Q I h) fun c s1 e=>?_)
 cases c with
 | true=>exact isTrue_and_nil e
 | false=>exact e
theorem cL (ha:PT X a tA):PW X (.BoolOp .Or [a] pos) tA:=by
 intro wh pins s σ H Q I h
 refine isTrue_or (br (ha pins s σ H Q I h) fun c s1 e=>?_)
 cases c with
 | false=>exact isTrue_or_nil e
 | true=>exact e
theorem ye (ha:PT X a tA)(hb:PW X (.BoolOp .And (b :: rest) pos) tB'):PW X (.BoolOp .And (a :: b :: rest) pos) (AZ tA tB'):=by
 intro wh pins s σ H Q I h
 refine isTrue_and (br (ha pins s σ H _ I h) fun c s1 ⟨H1,I1,q1⟩=>?_)
 cases c with
 | true=>exact hb wh pins s1 σ H1 Q I1 q1
 | false=>exact ⟨H1,I1,q1⟩
theorem dh (ha:PT X a tA)(hb:PW X (.BoolOp .Or (b :: rest) pos) tB'):PW X (.BoolOp .Or (a :: b :: rest) pos) (B0 tA tB'):=by
 intro wh pins s σ H Q I h
 refine isTrue_or (br (ha pins s σ H _ I h) fun c s1 ⟨H1,I1,q1⟩=>?_)
 cases c with
 | true=>exact ⟨H1,I1,q1⟩
 | false=>exact hb wh pins s1 σ H1 Q I1 q1
theorem cz (ha:PT X a tA):PT X (.UnaryOp .Not a pos) (Ba tA):=by
 intro pins s σ H Q I h
 exact isTrue_not (ha pins s σ H (fun c H1=>Q (!c) H1) I h)
def AM (ta tb:TE):TE:=fun σ H Q=>ta σ H fun x H1=>∃ c,x = .bl c∧if c=true then tb σ H1 Q else Q (.bl false) H1
def AD (ta:TE):TE:=fun σ H Q=>ta σ H fun x H1=>∃ c,x = .bl c∧Q (.bl (!c)) H1
theorem fj {op}{t:TE}(h:PE X a t):PE X (.BoolOp op [a] pos) t:=fun pins s σ H Q I hw=>BoolOp_one (h pins s σ H Q I hw)
theorem c8 (ha:PE X a ta)(hb:PE X (.BoolOp .And (b :: rest) pos) tb):PE X (.BoolOp .And (a :: b :: rest) pos) (AM ta tb):=by
 intro pins s σ H Q I h
 refine BoolOp_and (br (ha pins s σ H _ I h) fun v s1 ⟨x,H1,I1,r1,q1⟩=>?_)
 obtain ⟨c,rfl,q1⟩:=q1
 cases r1
 refine wpAny_truthy_bool ?_
 cases c with
 | true=>exact hb pins s1 σ H1 Q I1 q1
 | false=>exact ⟨.bl false,H1,I1,rfl,q1⟩
theorem yt (ha:PE X a ta):PE X (.UnaryOp .Not a pos) (AD ta):=by
 intro pins s σ H Q I h
 refine UnaryOp_ (br (ha pins s σ H _ I h) fun v s1 ⟨x,H1,I1,r1,q1⟩=>?_)
 obtain ⟨c,rfl,q1⟩:=q1
 cases r1
 exact not_of (wpAny_truthy_bool ⟨.bl (!c),H1,I1,rfl,q1⟩)
def Cd (t:TT)(ta tb:TE):TE:=fun σ H Q=>t σ H fun c H1=>if c=true then ta σ H1 Q else tb σ H1 Q
theorem mi {c:Expr}(hc:PT X c tA)(ha:PE X a ta)(hb:PE X b tb):PE X (.IfExp c a b pos) (Cd tA ta tb):=by
 intro pins s σ H Q I h
 refine wpAny_IfExp (br (hc pins s σ H _ I h) fun d s1 ⟨H1,I1,q1⟩=>?_)
 cases d with
 | true=>exact ha pins s1 σ H1 Q I1 q1
 | false=>exact hb pins s1 σ H1 Q I1 q1
end
def a7 (K:PySem.W.Frag)(H:Hp)(a:Addr)(xs:List V):Prop :=
 Rd H a (.lst xs) ∨
  ∃ (o:Obj)(its:Array Value)(n:Nat),K.lookup a=some o∧o.cls = .type "list"∧o.dict=none∧o.data = .seq its n∧its.size≤sizeLine∧aI xs its.toList
def bg (K:PySem.W.Frag)(H:Hp)(a:Addr)(xs:List V):Prop :=
 Rd H a (.tup xs) ∨
  ∃ (o:Obj)(its:Array Value)(n:Nat),K.lookup a=some o∧o.cls = .type "tuple"∧o.data = .seq its n∧its.size≤sizeLine∧aI xs its.toList
def By:Value->Option V
 | .none=>some .non
 | .bool b=>some (.bl b)
 | .int i _=>some (.int i)
 | .str x _=>some (.str x)
 | .bytes b _=>some (.byt b)
 | .float b _=>some (.flt b)
 | .ref a=>some (.ref a)
 | .type n=>some (.ty n)
 | _=>none
theorem aC.abs {x:V}{u:Value}(r:aC x u):By u=some x:=by
 cases x with
 | non=>cases r; rfl
 | bl _=>cases r; rfl
 | int _=>obtain ⟨t,rfl⟩:=r; rfl
 | str _=>obtain ⟨t,rfl⟩:=r; rfl
 | byt _=>obtain ⟨t,rfl⟩:=r; rfl
 | flt _=>obtain ⟨t,rfl⟩:=r; rfl
 | ref _=>cases r; rfl
 | ty _=>cases r; rfl
theorem aC.inj {x y:V}{u:Value}(r:aC x u)(q:aC y u):x=y:=Option.some.inj (r.abs.symm.trans q.abs)
theorem aI.inj:∀ {xs ys:List V}{us:List Value},aI xs us->aI ys us->xs=ys
 | _,_,_,.nil,.nil=>rfl
 | _,_,_,.cons r t,.cons r' t'=>by rw [r.inj r',aI.inj t t']
section
variable {X:Cx}{pins:List (Addr × Obj)}{σ:St}{H:Hp}{s:Shared}{a:Addr}{xs ys:List V}
theorem a7.of {K:PySem.W.Frag}(h:H a=some (.lst xs)):a7 K H a xs:=.inl (.inl h)
theorem bg.of {K:PySem.W.Frag}(h:H a=some (.tup xs)):bg K H a xs:=.inl (.inl h)
theorem Inv.list (I:Inv X pins σ H s)(h:a7 X.K H a xs):∃ its:List Value,aI xs its∧PlainL s.heap a its.toArray∧xs.length≤sizeLine:=by
 rcases h with h | ⟨o,its,n,hk,hc,hd,hs,hz,r⟩
 ·obtain ⟨z,its,n,r,e⟩:=h.ok I.hok
  exact ⟨its,r,⟨_,n,e,rfl,rfl,rfl⟩,z⟩
 ·refine ⟨its.toList,r,⟨o,n,I.kIn a o hk,hc,hd,by simpa using hs⟩,?_⟩
  have e:=r.length
  simp only [Array.length_toList] at e
  omega
theorem Inv.tuple (I:Inv X pins σ H s)(h:bg X.K H a xs):∃ its:List Value,aI xs its∧IsTup s.heap a its.toArray∧xs.length≤sizeLine:=by
 rcases h with h | ⟨o,its,n,hk,hc,hs,hz,r⟩
 ·obtain ⟨z,its,r,p⟩:=h.ok I.hok
  exact ⟨its,r,p,z⟩
 ·refine ⟨its.toList,r,⟨o,I.kIn a o hk,hc,n,by simpa using hs⟩,?_⟩
  have e:=r.length
  simp only [Array.length_toList] at e
  omega
theorem Inv.list_inj (I:Inv X pins σ H s)(h:a7 X.K H a xs)(h':a7 X.K H a ys):xs=ys:=by
 obtain ⟨its,r,⟨o,n,e,_,_,d⟩,_⟩:=I.list h
 obtain ⟨its',r',⟨o',n',e',_,_,d'⟩,_⟩:=I.list h'
 rw [e] at e'; cases e'
 rw [d] at d'
 injection d' with d1 _
 have:its=its':=by simpa using congrArg Array.toList d1
 subst this
 exact r.inj r'
theorem Inv.tuple_inj (I:Inv X pins σ H s)(h:bg X.K H a xs)(h':bg X.K H a ys):xs=ys:=by
 obtain ⟨its,r,⟨o,e,_,n,d⟩,_⟩:=I.tuple h
 obtain ⟨its',r',⟨o',e',_,n',d'⟩,_⟩:=I.tuple h'
 rw [e] at e'; cases e'
 rw [d] at d'
 injection d' with d1 _
 have:its=its':=by simpa using congrArg Array.toList d1
 subst this
 exact r.inj r'
end
abbrev Cx.wish (X:Cx)(E:Value->Shared->Prop):Cx:={ X with xe:=E }
abbrev Cx.nox (X:Cx):Cx:=X.wish fun _ _=>False
theorem Cx.Ok.wish {X:Cx}(ok:X.Ok)(E:Value->Shared->Prop):(X.wish E).Ok :=
 ⟨ok.mod,ok.kind,ok.glob,ok.blt,ok.above,ok.inj,ok.has,ok.cab,ok.hd,ok.frames,ok.stk,ok.exf,ok.bs,ok.bsz,ok.noex,ok.exfs,ok.funs,ok.frf⟩
theorem Cx.Ok.unwish {X:Cx}{E:Value->Shared->Prop}(ok:(X.wish E).Ok):X.Ok :=
 ⟨ok.mod,ok.kind,ok.glob,ok.blt,ok.above,ok.inj,ok.has,ok.cab,ok.hd,ok.frames,ok.stk,ok.exf,ok.bs,ok.bsz,ok.noex,ok.exfs,ok.funs,ok.frf⟩
section
variable {X:Cx}{pins:List (Addr × Obj)}{σ:St}{H:Hp}{s:Shared}{E:Value->Shared->Prop}
theorem Inv.wish (I:Inv X pins σ H s)(E:Value->Shared->Prop):Inv (X.wish E) pins σ H s:=⟨I.ok.wish E,I.os,I.bare,I.base,I.loc,I.cell,I.free,I.freeC,I.pin,I.hok,I.len⟩
theorem Inv.unwish (I:Inv (X.wish E) pins σ H s):Inv X pins σ H s:=⟨I.ok.unwish,I.os,I.bare,I.base,I.loc,I.cell,I.free,I.freeC,I.pin,I.hok,I.len⟩
theorem SP.unwish {D:Ends}{f:Flow}{s':Shared}(h:SP (X.wish E) pins D f s'):SP X pins D f s':=by
 cases f with
 | next=>obtain ⟨σ',H',I,q⟩:=h; exact ⟨σ',H',I.unwish,q⟩
 | brk=>obtain ⟨σ',H',I,q⟩:=h; exact ⟨σ',H',I.unwish,q⟩
 | cont=>obtain ⟨σ',H',I,q⟩:=h; exact ⟨σ',H',I.unwish,q⟩
 | ret u=>obtain ⟨v,σ',H',I,r,q⟩:=h; exact ⟨v,σ',H',I.unwish,r,q⟩
theorem ju.nox {st:List Stmt}{t:TS}(h:ju X.nox st t):ju X st t:=fun pins s σ H D I hw =>
 wpAny_mono (h pins s σ H D (I.wish _) hw) (fun _ _ q=>q.unwish) fun _ _ z=>False.elim z
end
section
variable {X:Cx}{st:Stmt}{rest:List Stmt}{t u:TS}{e:Expr}{te:TE}{pos:Pos}
def tNext:TS:=fun D σ H=>D.nx σ H
def yL (t u:TS):TS:=fun D σ H=>t { D with nx:=u D } σ H
theorem aO:ju X [] tNext:=fun _ _ σ H _ I h=>wpAny_execs_nil ⟨σ,H,I,h⟩
theorem ai (h1:PS X st t)(h2:ju X rest u):ju X (st :: rest) (yL t u):=by
 intro pins s σ H D I h
 refine wpAny_execs_cons (br (h1 pins s σ H { D with nx:=u D } I h) fun f s1 q=>?_)
 cases f with
 | next =>
   obtain ⟨σ',H',I',q⟩:=q
   exact h2 pins s1 σ' H' D I' q
 | ret v=>exact q
 | brk=>exact q
 | cont=>exact q
theorem aq (h1:PS X st t):ju X [st] t:=by
 intro pins s σ H D I h
 refine wpAny_execs_cons (br (h1 pins s σ H D I h) fun f s1 q=>?_)
 cases f with
 | next=>exact wpAny_execs_nil q
 | ret v=>exact q
 | brk=>exact q
 | cont=>exact q
theorem Inv.quiet {pins:List (Addr × Obj)}{σ:St}{H:Hp}{s:Shared}(I:Inv X pins σ H s):interactive X.env=false:=by simp [interactive,I.ok.kind]
def Ax (te:TE):TS:=fun D σ H=>te σ H fun _ H1=>D.nx σ H1
theorem fP (he:PE X e te)(hs:swapsWith e none pos.line X.env=pure false:=by rfl):PS X (.Expr e pos) (Ax te):=by
 intro pins s σ H D I h
 exact wpAny_Expr_any (br (he pins s σ H _ I h) fun v s1 ⟨x,H1,I1,r1,q1⟩=>⟨σ,H1,I1,q1⟩) I.quiet hs
def zF (te:TE):TS:=fun D σ H=>te σ H D.rt
theorem az (he:PE X e te):PS X (.Return (some e) pos) (zF te):=by
 intro pins s σ H D I h
 exact wpAny_Return_some (br (he pins s σ H _ I h) fun v s1 ⟨x,H1,I1,r1,q1⟩=>⟨x,σ,H1,I1,r1,q1⟩)
def BA (c:TT)(t u:TS):TS:=fun D σ H=>c σ H fun b H1=>if b=true then t D σ H1 else u D σ H1
theorem bt {c:Expr}{a b:List Stmt}{tc:TT}(hc:PT X c tc)(ha:ju X a t)(hb:ju X b u):PS X (.If c a b pos) (BA tc t u):=by
 intro pins s σ H D I h
 refine wpAny_If (br (hc pins s σ H _ I h) fun d s1 ⟨H1,I1,q1⟩=>?_)
 cases d with
 | true=>exact ha pins s1 σ H1 D I1 q1
 | false=>exact hb pins s1 σ H1 D I1 q1
def tNever:TS:=fun _ _ _=>False
theorem nA:PS X st tNever:=fun _ _ _ _ _ _ h=>h.elim
theorem rV {sts:List Stmt}:ju X sts tNever:=fun _ _ _ _ _ _ h=>h.elim
end
abbrev TG:=V->St->Hp->(St->Hp->Prop)->Prop
abbrev TGs:=List V->St->Hp->(St->Hp->Prop)->Prop
def PG (X:Cx)(target:Expr)(t:TG):Prop :=
 ∀ (pins:List (Addr × Obj))(s:Shared)(σ:St)(H:Hp)(v:V)(u:Value)(Q:St->Hp->Prop),Inv X pins σ H s->aC v u->t v σ H Q →
   wpAny (model X.prog X.w) X.A (assign target X.env u) (fun _ s'=>∃ σ' H',Inv X pins σ' H' s'∧Q σ' H') X.xe s
def AO (X:Cx)(ts:List Expr)(t:TGs):Prop :=
 ∀ (pins:List (Addr × Obj))(s:Shared)(σ:St)(H:Hp)(vs:List V)(us:List Value)(Q:St->Hp->Prop),Inv X pins σ H s->aI vs us->t vs σ H Q →
   wpAny (model X.prog X.w) X.A (assignInOrder ((assignEach ts X.env).map (·.2)) us) (fun _ s'=>∃ σ' H',Inv X pins σ' H' s'∧Q σ' H') X.xe s
abbrev yZ:=V->V->V->Hp->(Hp->Prop)->Prop
def Ak (X:Cx)(t:yZ):Prop :=
 ∀ (pins:List (Addr × Obj))(s:Shared)(σ:St)(H:Hp)(o i v:V)(ov iv u:Value)(Q:Hp->Prop),Inv X pins σ H s->aC o ov->aC i iv->aC v u->t o i v H Q →
   wpAny (model X.prog X.w) X.A (setItem ov iv u) (fun _ s'=>∃ H',Inv X pins σ H' s'∧Q H') X.xe s
section
variable {X:Cx}{pos:Pos}
def cc (i:Nat):TG:=fun v σ H Q=>Q (σ.set i (some v)) H
theorem aG {i:Nat}{x:Str}(hN:X.N.Nodup)(hi:X.N[i]?=some x)(hx:zL X.env.scope x)(hf:X.fn x=true∨X.env.scope.names.lookup x=some .local:=by first | exact .inl rfl | exact .inr rfl | assumption):PG X (.Name x pos) (cc i):=by
 intro pins s σ H v u Q I r h
 exact wpAny_assign_Name (fH I hN hi hx r (fun s' I'=>⟨_,H,I',h⟩) hf)
def gNil:TGs:=fun vs σ H Q=>vs=[]∧Q σ H
def eK (t:TG)(u:TGs):TGs:=fun vs σ H Q=>∃ v r,vs=v :: r∧t v σ H fun σ' H'=>u r σ' H' Q
theorem b7:AO X [] gNil:=by
 intro pins s σ H vs us Q I r h
 obtain ⟨e,h⟩:=h
 subst e
 cases r
 exact assignInOrder_nil ⟨σ,H,I,h⟩
theorem aN {e:Expr}{es:List Expr}{t:TG}{u:TGs}(h1:PG X e t)(h2:AO X es u)
 (hs:(assignEach (e :: es) X.env).map (·.2)=assign e X.env :: (assignEach es X.env).map (·.2):=by rfl):AO X (e :: es) (eK t u):=by
 intro pins s σ H vs us Q I r h
 obtain ⟨v,vr,e1,h⟩:=h
 subst e1
 cases r with
 | cons r rr =>
   rw [hs]
   refine assignInOrder_cons (br (h1 pins s σ H _ _ _ I r h) fun _ s1 ⟨σ1,H1,I1,q1⟩=>?_)
   exact h2 pins s1 σ1 H1 _ _ Q I1 rr q1
def uP (K:PySem.W.Frag)(n:Nat)(t:TGs):TG:=fun v σ H Q=>∃ a xs,v = .ref a∧bg K H a xs∧xs.length=n∧t xs σ H Q
theorem cH {es:List Expr}{k:Nat}{t:TGs}{n:Nat}(hc:X.calm=true)(h:AO X es t)
 (hn:(assignEach es X.env).length=n:=by rfl)(hst:(assignEach es X.env).findIdx? (·.1)=none:=by rfl):PG X (.Tuple es k pos) (uP X.K n t):=by
 intro pins s σ H v u Q I r hw
 obtain ⟨a,xs,e1,hq,hl,hw⟩:=hw
 subst e1
 cases r
 obtain ⟨its,rv,ht,hz⟩:=I.tuple hq
 refine assign_Tuple_tuple (I.ok.hd hc) ht (by simp [hn,← hl,rv.length]) hst fun h' hx=>?_
 have I1:Inv X pins σ H { s with heap:=h' }:=I.kept (t':=s.toks) fun b o e=>hx b o (Nat.ne_of_lt (Heap.lt_size e)) e
 exact h pins _ σ H xs _ Q I1 (by simpa using rv) hw
def A7 (to ti:TE)(t:yZ):TG:=fun v σ H Q=>to σ H fun o H1=>ti σ H1 fun i H2=>t o i v H2 fun H3=>Q σ H3
theorem lD {o i:Expr}{to ti:TE}{t:yZ}(ho:PE X o to)(hi:PE X i ti)(hs:Ak X t)
 (ha:∀ v,assign (.Subscript o i pos) X.env v=(do
  let ov ← holding [v] (eval o X.env)
  let iv ← holding [v,ov] (eval i X.env)
  standAt pos
  holding [v,ov,iv] (setItem ov iv v)
  release [v,ov,iv] []):=by intro _; rfl):PG X (.Subscript o i pos) (A7 to ti t):=by
 intro pins s σ H v u Q I r h
 rw [ha]
 refine wpAny_bind (wpAny_holding (br (ho pins s σ H _ I h) fun ov s1 ⟨x,H1,I1,r1,q1⟩=>?_))
 refine wpAny_bind (wpAny_holding (br (hi pins s1 σ H1 _ I1 q1) fun iv s2 ⟨y,H2,I2,r2,q2⟩=>?_))
 refine wpAny_bind (wpAny_standAt (wpAny_bind (wpAny_holding (br (hs pins s2 σ H2 x y v ov iv u _ I2 r1 r2 r q2) fun _ s3 ⟨H3,I3,q3⟩=>?_))))
 exact wpAny_release ⟨σ,H3,I3,q3⟩
def vj (te:TE)(g:TG):TS:=fun D σ H=>te σ H fun x H1=>g x σ H1 D.nx
theorem eZ {tg e:Expr}{te:TE}{g:TG}(he:PE X e te)(hg:PG X tg g)(hs:swapsWithSole [tg] e pos.line X.env=pure false:=by rfl)(hw:swappedStores [tg] e X.env=pure none:=by rfl)
 (h1:(assignEach [tg] X.env).map (·.2)=[assign tg X.env]:=by rfl):PS X (.Assign [tg] e pos) (vj te g):=by
 intro pins s σ H D I h
 refine wpAny_Assign_stores (br (he pins s σ H _ I h) fun v s1 ⟨x,H1,I1,r1,q1⟩=>?_) hs hw
 rw [h1]
 exact br (hg pins s1 σ H1 x v _ I1 r1 q1) fun _ s2 q=>q
theorem aJ {i:Nat}{x:Str}{e:Expr}{te:TE}{pos':Pos}(hN:X.N.Nodup)(hi:X.N[i]?=some x)(hx:zL X.env.scope x)(he:PE X e te)(hs:swapsWith e (some (.Name x pos')) pos.line X.env=pure false:=by rfl)(hf:X.fn x=true∨X.env.scope.names.lookup x=some .local:=by first | exact .inl rfl | exact .inr rfl | assumption):
 PS X (.Assign [.Name x pos'] e pos) (vj te (cc i)):=by
 intro pins s σ H D I h
 refine wpAny_Assign_Name (br (he pins s σ H _ I h) fun v s1 ⟨y,H1,I1,r1,q1⟩=>?_) hs
 exact fH I1 hN hi hx r1 (fun s2 I2=>⟨_,H1,I2,q1⟩) hf
def Bv (i j:Nat)(ta:TA):TS:=fun D σ H=>ta σ H fun vs H1=>∃ v w,vs=[v,w]∧D.nx ((σ.set i (some v)).set j (some w)) H1
theorem vF {i j:Nat}{x y:Str}{a b:Expr}{ta:TA}{px py pt:Pos} {kt k2 pt2}(hc:X.calm=true)(hN:X.N.Nodup)(hi:X.N[i]?=some x)(hj:X.N[j]?=some y)(hij:i≠j)
 (hx:X.env.scope.names.lookup x=some .local)(hy:X.env.scope.names.lookup y=some .local)(ha:PA X [a,b] ta)
 (hw:swappedStores [.Tuple [.Name x px,.Name y py] kt pt] (.Tuple [a,b] k2 pt2) X.env=pure (some [x,y]))
 (hs:swapsWithSole [.Tuple [.Name x px,.Name y py] kt pt] (.Tuple [a,b] k2 pt2) pos.line X.env=pure false:=by rfl):
 PS X (.Assign [.Tuple [.Name x px,.Name y py] kt pt] (.Tuple [a,b] k2 pt2) pos) (Bv i j ta):=by
 intro pins s σ H D I h
 rw [exec_Assign_arm]
 refine wpAny_bind (wpAny_standAt ?_)
 rw [hs]
 refine wpAny_bind (wpAny_pure ?_)
 rw [if_neg (by decide)]
 refine wpAny_bind (Tuple_ (br (ha _ pins s σ H _ I h) fun us s1 ⟨vs,H1,I1,r1,q1⟩=>?_))
 obtain ⟨v,w,e1,q1⟩:=q1
 subst e1
 obtain ⟨u1,u2,rfl,rv,rw'⟩:∃ u1 u2,us=[u1,u2]∧aC v u1∧aC w u2:=by
  cases r1 with
  | cons p q =>
    cases q with
    | cons p' q' =>
      cases q'
      exact ⟨_,_,rfl,p,p'⟩
 refine wpAny_newObj_type ?_ f9
 have I2:Inv X pins σ H1 { s1 with heap:=s1.heap.push { cls:=.type "tuple",data:=.seq [u1,u2].toArray } }:=I1.kept (t':=s1.toks) fun b o e=>Heap.get?_push_of_some _ e
 rw [hw]
 refine wpAny_bind (wpAny_pure ?_)
 show wpAny (model X.prog X.w) X.A (do rule "assign.swapped-stores"; let items ← unpackItems (.ref s1.heap.objs.size) 2 none; assignInOrder [fun v=>bindName X.env y v,fun v=>bindName X.env x v] items.reverse; pure Flow.next) _ _ _
 refine wpAny_bind (wpAny_rule (wpAny_bind (unpackItems_tuple (items:=#[u1,u2]) (I.ok.hd hc) (IsTup.new s1.heap _) fun h' hx'=>?_)))
 have I3:=I2.kept (h':=h') (t':=s1.toks) fun b o e=>hx' b o (Nat.ne_of_lt (Heap.lt_size e)) e
 show wpAny _ _ (assignInOrder [fun v=>bindName X.env y v,fun v=>bindName X.env x v] [u2,u1] >>= fun _=>pure Flow.next) _ _ _
 refine wpAny_bind (assignInOrder_cons (wpAny_bindName (fH I3 hN hj (.inl hy) rw' (fun s2 I4=>?_) (.inr hy))))
 refine assignInOrder_cons (wpAny_bindName (fH I4 hN hi (.inl hx) rv (fun s3 I5=>assignInOrder_nil (wpAny_pure ?_)) (.inr hx)))
 rw [List.set_comm _ _ (Ne.symm hij)] at I5
 exact ⟨_,H1,I5,q1⟩
def yY (c:TT)(tb:TS):TS:=fun D σ H=>∃ W:Nat->St->Hp->Prop,(∃ m,W m σ H)∧∀ m σ H,W m σ H →
 c σ H fun b H1=>if b=true then ∃ N:St->Hp->Prop,(∀ σ' H',N σ' H'->∃ m',m' < m∧W m' σ' H')∧tb { D with nx:=N,ct:=N,bk:=D.nx } σ H1 else D.nx σ H1
theorem ip {c:Expr}{body:List Stmt}{tc:TT}{tb:TS}(hp:PassesOwn (model X.prog X.w) X.A X.env X.xe)(hc:PT X c tc)(hb:ju X body tb):PS X (.While c body [] pos) (yY tc tb):=by
 intro pins s σ H D I h
 obtain ⟨W,⟨m0,w0⟩,turn⟩:=h
 refine wpAny_While (codeAny_whileLoop (fun n s'=>∃ σ' H',Inv X pins σ' H' s'∧W n σ' H') ?_ m0 ⟨σ,H,I,w0⟩)
 rintro n s1 ⟨σ1,H1,I1,w1⟩
 refine wpAny_passesOwn hp (br (hc pins s1 σ1 H1 _ I1 (turn n σ1 H1 w1)) fun b s2 ⟨H2,I2,q2⟩=>?_)
 cases b with
 | true =>
   obtain ⟨N,hN,q2⟩:=q2
   rw [if_pos rfl]
   refine wpAny_passesOwn hp (br (hb pins s2 σ1 H2 _ I2 q2) fun f s3 q3=>?_)
   cases f with
   | next =>
     obtain ⟨σ3,H3,I3,n3⟩:=q3
     obtain ⟨m',hm,w3⟩:=hN σ3 H3 n3
     exact ⟨m',hm,σ3,H3,I3,w3⟩
   | cont =>
     obtain ⟨σ3,H3,I3,n3⟩:=q3
     obtain ⟨m',hm,w3⟩:=hN σ3 H3 n3
     exact ⟨m',hm,σ3,H3,I3,w3⟩
   | brk=>exact q3
   | ret v=>exact q3
 | false =>
   rw [if_neg Bool.false_ne_true]
   exact wpAny_execs_nil ⟨σ1,H2,I2,q2⟩
end
structure It where
 go:Nat->Hp->Prop
 yld:Nat->Hp->V->Hp->Prop
 stop:Nat->Hp->Prop
def cu (X:Cx)(pins:List (Addr × Obj))(H:Hp)(b:Addr):Prop :=
 H b=none∧b≠X.env.locals∧b ∉ X.fs∧(b∈X.ex∨X.s₀.heap.objs.size≤b)∧(∀ x c,X.env.cells.lookup x=some c->c≠b)∧∀ p∈X.pn++pins,p.1≠b
theorem Inv.fpOk {X:Cx}{pins:List (Addr × Obj)}{σ:St}{H H':Hp}{s:Shared}{b:Addr}(I:Inv X pins σ H s)(hb:s.heap.objs.size≤b)(hn:H' b=none):cu X pins H' b:=by
 refine ⟨hn,Nat.ne_of_gt (Nat.lt_of_lt_of_le I.lt hb),I.nofs hb,.inr (Nat.le_trans I.sz hb),fun x c e z=>?_,fun p hp z=>?_⟩
 ·obtain ⟨v,q⟩:=I.cell x c e
  exact absurd (Nat.lt_of_lt_of_le q.lt (by rw [z]; exact hb)) (Nat.lt_irrefl _)
 ·exact absurd (Nat.lt_of_lt_of_le (Heap.lt_size (I.pin p hp).1) (by rw [z]; exact hb)) (Nat.lt_irrefl _)
structure Turn (P:Program)(w:World)(K:PySem.W.Frag)(tg:Expr)(J:It)(fp:List Addr)(it:Addr)(tn:Nat->Heap->Prop):Prop where
 mem:it∈fp
 obj:∀ i h,tn i h->∀ b∈fp,∃ o,h.get? b=some o∧∀ v,o.data ≠ .cell v
 keep:∀ i h h',tn i h->(∀ b∈fp,∀ o,h.get? b=some o->h'.get? b=some o)->tn i h'
 item:∀ (X:Cx),X.prog=P->X.w=w->X.K=K->X.calm=true->∀ (i:Nat)(pins:List (Addr × Obj))(s:Shared)(σ:St)(H:Hp)(E:Value->Shared->Prop),Inv X pins σ H s->(∀ b∈fp,cu X pins H b)->tn i s.heap->J.go i H →
  wpAny (model P w) X.A (pyNext (.ref it)) (fun r s1=>∃ u,r=some u ∧
   wpAny (model P w) X.A (letOwnedTupleGo tg (.ref it) u) (fun _ s2=>∃ x H',Inv X pins σ H' s2∧aC x u∧J.yld i H x H'∧tn (i + 1) s2.heap∧∀ b∈fp,H' b=none) E s1) E s
 done:∀ (X:Cx),X.prog=P->X.w=w->X.K=K->X.calm=true->∀ (i:Nat)(pins:List (Addr × Obj))(s:Shared)(σ:St)(H:Hp)(E:Value->Shared->Prop),Inv X pins σ H s->(∀ b∈fp,cu X pins H b)->tn i s.heap->J.stop i H →
  wpAny (model P w) X.A (pyNext (.ref it)) (fun r s1=>r=none∧Inv X pins σ H s1) E s
 self:∀ (A:Around)(i:Nat)(s:Shared)(Q:Value->Shared->Prop)(E:Value->Shared->Prop),tn i s.heap->Q (.ref it) s->wpAny (model P w) A (pyIter (.ref it)) Q E s
abbrev TI:=St->Hp->(It->Hp->Prop)->Prop
def BY (X:Cx)(pins:List (Addr × Obj))(σ:St)(tg:Expr)(R:It->Hp->Prop)(itv:Value)(s2:Shared):Prop :=
 ∃ (it:Addr)(fp:List Addr)(tn:Nat->Heap->Prop)(J:It)(H':Hp),itv = .ref it∧Inv X pins σ H' s2∧Turn X.prog X.w X.K tg J fp it tn∧tn 0 s2.heap∧(∀ b∈fp,cu X pins H' b)∧R J H'
def PI (X:Cx)(tg iter:Expr)(wi:TI):Prop :=
 ∀ (pins:List (Addr × Obj))(s:Shared)(σ:St)(H:Hp)(R:It->Hp->Prop),Inv X pins σ H s->wi σ H R →
   wpAny (model X.prog X.w) X.A (eval iter X.env) (fun v s1=>wpAny (model X.prog X.w) X.A (pyIter v) (BY X pins σ tg R) X.xe s1) X.xe s
theorem qA {M:Model}{A:Around}{E:Value->Shared->Prop}{s:Shared}{tg:Expr}{it:Addr}{u:Value}{o:Obj}{n:String}{vs:Array Value}{Q:Unit->Shared->Prop}(ho:s.heap.get? it=some o)(hc:o.cls = .type n)(hd:o.data = .fields vs)
 (hn:["enumerate","zip","dict_itemiterator","dict_reverseitemiterator","odict_iterator","itertools.zip_longest","itertools.pairwise"].contains n=false)(hQ:Q () s):wpAny M A (letOwnedTupleGo tg (.ref it) u) Q E s:=by
 unfold letOwnedTupleGo
 cases tg <;> first
  | exact wpAny_pure hQ
  | (cases u <;> first
   | exact wpAny_pure hQ
   | (refine wpAny_bind (wpAny_load ho ?_)
      rw [hc,hd]
      show wpAny M A (if (["enumerate","zip","dict_itemiterator","dict_reverseitemiterator","odict_iterator","itertools.zip_longest","itertools.pairwise"].contains n&&vs[0]? == some (rawInt _))=true then _ else _) Q E s
      rw [if_neg (by intro h; rw [hn,Bool.false_and] at h; cases h)]
      exact wpAny_pure hQ))
def zv (K:PySem.W.Frag)(a:Addr):It :=
 ⟨fun i H=>∃ xs x,a7 K H a xs∧xs[i]?=some x,fun i H x H'=>H'=H∧∀ xs,a7 K H a xs->xs[i]?=some x,fun i H=>∃ xs,a7 K H a xs∧xs.length≤i⟩
def Bh (K:PySem.W.Frag)(a:Addr):It :=
 ⟨fun i H=>∃ xs x,bg K H a xs∧xs[i]?=some x,fun i H x H'=>H'=H∧∀ xs,bg K H a xs->xs[i]?=some x,fun i H=>∃ xs,bg K H a xs∧xs.length≤i⟩
def yk (lo:Int)(n:Nat):It:=⟨fun i _=>i < n,fun i H x H'=>H'=H∧x = .int (lo + i),fun i _=>n≤i⟩
theorem sV {P:Program}{w:World}{K:PySem.W.Frag}{tg:Expr}(a it:Addr):Turn P w K tg (zv K a) [it] it (fun i h=>h.IsListIter it a i) where
 mem:=by simp
 obj:=fun i h st b hb=>by
  have e:b=it:=by simpa using hb
  subst e
  obtain ⟨o,e,c,d⟩:=st
  exact ⟨o,e,fun v z=>by rw [d] at z; cases z⟩
 keep:=fun i h h' st k=>st.at fun o e=>k it (by simp) o e
 item:=by
  intro X hP hw hK hc i pins s σ H E I hf st hg
  subst hP hw hK
  obtain ⟨xs,x,hq,hx⟩:=hg
  obtain ⟨its,rv,p,hz⟩:=I.list hq
  obtain ⟨u,hu,ru⟩:=rv.get hx
  obtain ⟨f0,f1,f2,f3,f4,f5⟩:=hf it (by simp)
  refine wpAny_pyNext_list_item st p.isList (x:=u) (by simpa using hu) fun h' st' sb=>?_
  have I1:Inv X pins σ H { s with heap:=h' }:=I.turned (t':=s.toks) (fun b o hb e=>(sb.2 b hb).trans e) f0 f1 f3 f4 f5
  obtain ⟨o,e,c,d⟩:=id st'
  exact ⟨u,rfl,qA (s:={ s with heap:=h' }) e c d (by decide) ⟨x,H,I1,ru,⟨rfl,fun ys hy=>by rw [I.list_inj hy hq]; exact hx⟩,st',fun b hb=>(hf b hb).1⟩⟩
 done:=by
  intro X hP hw hK hc i pins s σ H E I hf st hg
  subst hP hw hK
  obtain ⟨xs,hq,hx⟩:=hg
  obtain ⟨its,rv,p,hz⟩:=I.list hq
  obtain ⟨f0,f1,f2,f3,f4,f5⟩:=hf it (by simp)
  have hl:=rv.length
  exact wpAny_pyNext_list_end (I.ok.hd hc) st p.isList (by simp; omega) fun h' eb=>⟨rfl,I.turned (t':=s.toks) (fun b o hb e=>eb b o hb e) f0 f1 f3 f4 f5⟩
 self:=fun _ _ _ _ _ st h=>wpAny_pyIter_listiter st h
theorem n9 {P:Program}{w:World}{K:PySem.W.Frag}{tg:Expr}(a it:Addr):Turn P w K tg (Bh K a) [it] it (fun i h=>h.IsTupleIter it a i) where
 mem:=by simp
 obj:=fun i h st b hb=>by
  have e:b=it:=by simpa using hb
  subst e
  obtain ⟨o,e,c,d⟩:=st
  exact ⟨o,e,fun v z=>by rw [d] at z; cases z⟩
 keep:=fun i h h' st k=>st.at fun o e=>k it (by simp) o e
 item:=by
  intro X hP hw hK hc i pins s σ H E I hf st hg
  subst hP hw hK
  obtain ⟨xs,x,hq,hx⟩:=hg
  obtain ⟨its,rv,p,hz⟩:=I.tuple hq
  obtain ⟨u,hu,ru⟩:=rv.get hx
  obtain ⟨f0,f1,f2,f3,f4,f5⟩:=hf it (by simp)
  refine wpAny_pyNext_tuple_item st (show s.heap.IsTuple a its.toArray from p) (x:=u) (by simpa using hu) fun h' st' sb=>?_
  have I1:Inv X pins σ H { s with heap:=h' }:=I.turned (t':=s.toks) (fun b o hb e=>(sb.2 b hb).trans e) f0 f1 f3 f4 f5
  obtain ⟨o,e,c,d⟩:=id st'
  exact ⟨u,rfl,qA (s:={ s with heap:=h' }) e c d (by decide) ⟨x,H,I1,ru,⟨rfl,fun ys hy=>by rw [I.tuple_inj hy hq]; exact hx⟩,st',fun b hb=>(hf b hb).1⟩⟩
 done:=by
  intro X hP hw hK hc i pins s σ H E I hf st hg
  subst hP hw hK
  obtain ⟨xs,hq,hx⟩:=hg
  obtain ⟨its,rv,p,hz⟩:=I.tuple hq
  obtain ⟨f0,f1,f2,f3,f4,f5⟩:=hf it (by simp)
  have hl:=rv.length
  exact wpAny_pyNext_tuple_end (I.ok.hd hc) st (show s.heap.IsTuple a its.toArray from p) (by simp; omega) fun h' eb=>⟨rfl,I.turned (t':=s.toks) (fun b o hb e=>eb b o hb e) f0 f1 f3 f4 f5⟩
 self:=fun _ _ _ _ _ st h=>wpAny_pyIter_tupleiter st h
theorem oQ {P:Program}{w:World}{K:PySem.W.Frag}{tg:Expr}(it:Addr)(lo:Int)(n:Nat):Turn P w K tg (yk lo n) [it] it (fun i h=>IsRangeIter h it (lo + (i:Nat) * 1) ((n:Int) - (i:Nat)) 1) where
 mem:=by simp
 obj:=fun i h st b hb=>by
  have e:b=it:=by simpa using hb
  subst e
  exact ⟨_,st,fun v z=>by
   have z':Data.fields _=Data.cell v:=z
   cases z'⟩
 keep:=fun i h h' st k=>k it (by simp) _ st
 item:=by
  intro X hP hw hK hc i pins s σ H E I hf st hg
  subst hP hw hK
  obtain ⟨f0,f1,f2,f3,f4,f5⟩:=hf it (by simp)
  have W:=Walks.range (prog:=X.prog) (w:=X.w) (I.ok.hd hc) it lo 1 n
  refine W.item i s _ _ hg st fun v h' tk hv st' kk=>?_
  obtain ⟨t,rfl⟩:=hv
  have I1:Inv X pins σ H { s with heap:=h',toks:=tk }:=I.turned (fun b o hb e=>kk b o (by simpa using hb) e) f0 f1 f3 f4 f5
  refine ⟨_,rfl,qA (s:={ s with heap:=h',toks:=tk }) (n:="range_iterator") st' rfl rfl (by decide) ⟨.int (lo + i),H,I1,⟨t,?_⟩,⟨rfl,rfl⟩,st',fun b hb=>(hf b hb).1⟩⟩
  rw [Int.mul_one]
 done:=by
  intro X hP hw hK hc i pins s σ H E I hf st hg
  subst hP hw hK
  obtain ⟨f0,f1,f2,f3,f4,f5⟩:=hf it (by simp)
  exact wpAny_pyNext_range_end (I.ok.hd hc) st (by have:n≤i:=hg; omega) fun h' eb=>⟨rfl,I.turned (t':=s.toks) (fun b o hb e=>eb b o hb e) f0 f1 f3 f4 f5⟩
 self:=fun _ _ _ _ _ st h=>wpAny_pyIter_rangeiter st h
section
variable {X:Cx}{tg:Expr}
def Ap (K:PySem.W.Frag)(tl:TE):TI:=fun σ H R=>tl σ H fun x H1=>∃ a,x = .ref a∧(∃ xs,a7 K H1 a xs)∧R (zv K a) H1
def Bw (K:PySem.W.Frag)(tl:TE):TI:=fun σ H R=>tl σ H fun x H1=>∃ a,x = .ref a∧(∃ xs,bg K H1 a xs)∧R (Bh K a) H1
theorem cW {l:Expr}{tl:TE}(hl:PE X l tl):PI X tg l (Ap X.K tl):=by
 intro pins s σ H R I h
 refine br (hl pins s σ H _ I h) fun v s1 ⟨x,H1,I1,r1,q1⟩=>?_
 obtain ⟨a,e,⟨xs,hq⟩,q⟩:=q1
 subst e
 cases r1
 obtain ⟨its,rv,p,hz⟩:=I1.list hq
 refine wpAny_pyIter_list p.isList ?_
 refine ⟨s1.heap.objs.size,[s1.heap.objs.size],_,_,H1,rfl,I1.kept (t':=s1.toks) fun b o e=>Heap.get?_push_of_some _ e,sV a _,⟨_,Heap.get?_push_size _ rfl,rfl,rfl⟩,fun b hb=>?_,q⟩
 have e:b=s1.heap.objs.size:=by simpa using hb
 subst e
 exact I1.fpOk (Nat.le_refl _) (I1.hok.fresh (Nat.le_refl _))
theorem pL {l:Expr}{tl:TE}(hl:PE X l tl):PI X tg l (Bw X.K tl):=by
 intro pins s σ H R I h
 refine br (hl pins s σ H _ I h) fun v s1 ⟨x,H1,I1,r1,q1⟩=>?_
 obtain ⟨a,e,⟨xs,hq⟩,q⟩:=q1
 subst e
 cases r1
 obtain ⟨its,rv,p,hz⟩:=I1.tuple hq
 refine wpAny_pyIter_tuple (show s1.heap.IsTuple a its.toArray from p) ?_
 refine ⟨s1.heap.objs.size,[s1.heap.objs.size],_,_,H1,rfl,I1.kept (t':=s1.toks) fun b o e=>Heap.get?_push_of_some _ e,n9 a _,⟨_,Heap.get?_push_size _ rfl,rfl,rfl⟩,fun b hb=>?_,q⟩
 have e:b=s1.heap.objs.size:=by simpa using hb
 subst e
 exact I1.fpOk (Nat.le_refl _) (I1.hok.fresh (Nat.le_refl _))
theorem wa {pins:List (Addr × Obj)}{σ:St}{H:Hp}{s:Shared}{R:It->Hp->Prop}{E:Value->Shared->Prop}{lo hi:Int}{t u v:Tok}{tk:Nat}(I:Inv X pins σ H s)(h1:-(2 ^ 62)≤lo)(h2:lo < 2 ^ 62)(h3:-(2 ^ 62)≤hi)(h4:hi < 2 ^ 62)
 (q:R (yk lo (hi - lo).toNat) H):wpAny (model X.prog X.w) X.A (pyIter (.ref s.heap.objs.size)) (BY X pins σ tg R) E { s with heap:=s.heap.push { cls:=.type "range",data:=.fields #[.int lo t,.int hi u,.int 1 v] },toks:=tk }:=by
 refine wpAny_pyIter_range (IsRange.new ..) (small_one h1 h2 h3 h4) ?_
 have I1:Inv X pins σ H { s with heap:=s.heap.push { cls:=.type "range",data:=.fields #[.int lo t,.int hi u,.int 1 v] },toks:=tk }:=I.kept fun b o e=>Heap.get?_push_of_some _ e
 refine ⟨(s.heap.push { cls:=.type "range",data:=.fields #[.int lo t,.int hi u,.int 1 v] }).objs.size,[(s.heap.push { cls:=.type "range",data:=.fields #[.int lo t,.int hi u,.int 1 v] }).objs.size],_,_,H,rfl,
  I1.kept (t':=tk) fun b o e=>Heap.get?_push_of_some _ e,oQ _ lo (hi - lo).toNat,?_,fun b hb=>?_,q⟩
 ·have e1:lo + ((0:Nat):Int) * 1=lo:=by simp
  have e2:(((hi - lo).toNat:Nat):Int) - ((0:Nat):Int)=Builtin.Range.rangeSize lo hi 1:=by rw [rangeSize_one]; split <;> omega
  show IsRangeIter _ _ (lo + ((0:Nat):Int) * 1) ((((hi - lo).toNat:Nat):Int) - ((0:Nat):Int)) 1
  rw [e1,e2]
  exact Heap.get?_push_size _ rfl
 ·have e:b=(s.heap.push { cls:=.type "range",data:=.fields #[.int lo t,.int hi u,.int 1 v] }).objs.size:=by simpa using hb
  subst e
  exact I1.fpOk (Nat.le_refl _) (I1.hok.fresh (Nat.le_refl _))
def Aq (ta:TA):TI:=fun σ H R=>ta σ H fun vs H1=>∃ j:Int,vs=[.int j]∧-(2 ^ 62)≤j∧j < 2 ^ 62∧R (yk 0 j.toNat) H1
theorem eA {a:Expr}{ta:TA}{p pos:Pos}(hg:Gl X "range")(hm:X.mg "range"=none)(ha:PA X [a] ta)(hs:starEach [a] X.env=[(false,eval a X.env)]:=by rfl):PI X tg (.Call (.Name "range" p) [a] [] pos) (Aq ta):=by
 intro pins s σ H R I h
 refine Call_ (dH I hg hm boot_range (PyProof.Rows.callWith_type1 (br (ha pos pins s σ H _ I h) fun us s1 ⟨vs,H1,I1,r1,q1⟩=>?_) hs rfl))
 obtain ⟨j,e,q1,q2,q⟩:=q1
 subst e
 cases r1 with
 | cons r rr =>
   cases rr
   obtain ⟨t,rfl⟩:=r
   exact call_range_1 (wa I1 (by omega) (by omega) q1 q2 (by simpa using q))
def Bd (wi:TI)(g:TG)(tb:TS):TS:=fun D σ H=>wi σ H fun J H1=>∃ W:Nat->Nat->St->Hp->Prop,(∃ m,W 0 m σ H1)∧∀ i m σ H,W i m σ H →
 (J.stop i H∧D.nx σ H)∨(J.go i H∧∃ N:St->Hp->Prop,(∀ σ' H',N σ' H'->∃ m',m' < m∧W (i + 1) m' σ' H')∧∀ x H',J.yld i H x H'->g x σ H' fun σ2 H2=>tb { D with nx:=N,ct:=N,bk:=D.nx } σ2 H2)
def iO (fp:List Addr)(h:Heap):List (Addr × Obj):=fp.filterMap fun b=>(h.get? b).map fun o=>(b,o)
theorem dF {fp:List Addr}{h:Heap}{b:Addr}{o:Obj}(hb:b∈fp)(e:h.get? b=some o):(b,o)∈iO fp h:=List.mem_filterMap.mpr ⟨b,hb,by rw [e]; rfl⟩
theorem qZ {fp:List Addr}{h:Heap}{p:Addr × Obj}(hp:p∈iO fp h):p.1∈fp∧h.get? p.1=some p.2:=by
 obtain ⟨b,hb,e⟩:=List.mem_filterMap.mp hp
 cases q:h.get? b with
 | none=>rw [q] at e; cases e
 | some o =>
   rw [q] at e
   have e':(b,o)=p:=Option.some.inj e
   subst e'
   exact ⟨hb,q⟩
theorem Inv.pinned {pins:List (Addr × Obj)}{σ:St}{H:Hp}{s:Shared}{fp:List Addr}(I:Inv X pins σ H s)(hf:∀ b∈fp,cu X pins H b)(ho:∀ b∈fp,∃ o,s.heap.get? b=some o∧∀ v,o.data ≠ .cell v):Inv X (pins++iO fp s.heap) σ H s :=
 I.pins_of fun p hp=>(List.mem_append.mp hp).elim (fun z=>I.pin p (List.mem_append_right _ z)) fun z=>by
   obtain ⟨hb,e⟩:=qZ z
   obtain ⟨f0,f1,f2,_⟩:=hf p.1 hb
   obtain ⟨o,e',d⟩:=ho p.1 hb
   rw [e] at e'; cases e'
   exact ⟨e,f0,f1,f2,d⟩
theorem Inv.unpinned {pins pl:List (Addr × Obj)}{σ:St}{H:Hp}{s:Shared}(I:Inv X (pins++pl) σ H s):Inv X pins σ H s:=I.pins_of fun p hp=>I.pin p (List.mem_append_right _ (List.mem_append_left _ hp))
theorem dS {iter:Expr}{body:List Stmt}{wi:TI}{g:TG}{tb:TS}{pos:Pos}(hp:PassesOwn (model X.prog X.w) X.A X.env X.xe)(hc:X.calm=true)(hi:PI X tg iter wi)(hg:PG X tg g)(hb:ju X body tb)
 (hs:∀ x,foldedSetIterable iter X.env x=pure x:=by intro _; rfl):PS X (.For tg iter body [] pos) (Bd wi g tb):=by
 intro pins s σ H D I h
 refine wpAny_For (br (hi pins s σ H _ I h) fun v s1 h1=>br h1 fun itv s2 h2=>?_) hs
 obtain ⟨it,fp,tn,J,H2,e,I2,T,st2,f2,W,⟨m0,w0⟩,turn⟩:=h2
 subst e
 have stat:∀ {H':Hp},(∀ b∈fp,H' b=none)->∀ b∈fp,cu X pins H' b:=fun hn b hb=>⟨hn b hb,(f2 b hb).2⟩
 refine codeAny_forLoop_any (fun n s'=>∃ i σ' H',Inv X pins σ' H' s'∧tn i s'.heap∧(∀ b∈fp,H' b=none)∧W i n σ' H') ?_ m0 ⟨0,σ,H2,I2,st2,fun b hb=>(f2 b hb).1,w0⟩
 rintro n s3 ⟨i,σ3,H3,I3,st3,fr3,w3⟩
 rcases turn i n σ3 H3 w3 with ⟨stop,qn⟩ | ⟨go,N,hN,step⟩
 ·refine wpAny_passesOwn hp (br (T.done X rfl rfl rfl hc i pins s3 σ3 H3 X.xe I3 (stat fr3) st3 stop) fun r s4 ⟨hr,I4⟩=>?_)
  subst hr
  exact wpAny_execs_nil ⟨σ3,H3,I4,qn⟩
 ·refine wpAny_passesOwn hp (br (T.item X rfl rfl rfl hc i pins s3 σ3 H3 X.xe I3 (stat fr3) st3 go) fun r s4 ⟨u,hr,h4⟩=>?_)
  subst hr
  refine wpAny_passesOwn hp (br h4 fun _ s5 ⟨x,H5,I5,r5,y5,st5,fr5⟩=>?_)
  have I5':=I5.pinned (stat fr5) (T.obj _ _ st5)
  refine wpAny_passesOwn hp (br (hg _ s5 σ3 H5 x u _ I5' r5 (step x H5 y5)) fun _ s6 ⟨σ6,H6,I6,q6⟩=>?_)
  refine wpAny_passesOwn hp (br (hb _ s6 σ6 H6 _ I6 q6) fun f s7 q7=>?_)
  have again:∀ {σ7:St}{H7:Hp},Inv X (pins++iO fp s5.heap) σ7 H7 s7->N σ7 H7->∃ m,m < n∧∃ i σ' H',Inv X pins σ' H' s7∧tn i s7.heap∧(∀ b∈fp,H' b=none)∧W i m σ' H':=fun {σ7 H7} I7 n7=>by
   obtain ⟨m',hm,w7⟩:=hN σ7 H7 n7
   refine ⟨m',hm,i + 1,σ7,H7,I7.unpinned,T.keep _ _ _ st5 fun b hb o e=>(I7.pin (b,o) (List.mem_append_right _ (List.mem_append_right _ (dF hb e)))).1,fun b hb=>?_,w7⟩
   obtain ⟨o,e,d⟩:=T.obj _ _ st5 b hb
   exact (I7.pin (b,o) (List.mem_append_right _ (List.mem_append_right _ (dF hb e)))).2.1
  cases f with
  | next=>obtain ⟨σ7,H7,I7,n7⟩:=q7; exact again I7 n7
  | cont=>obtain ⟨σ7,H7,I7,n7⟩:=q7; exact again I7 n7
  | brk=>obtain ⟨σ7,H7,I7,q7⟩:=q7; exact ⟨σ7,H7,I7.unpinned,q7⟩
  | ret v=>obtain ⟨x7,σ7,H7,I7,r7,q7⟩:=q7; exact ⟨x7,σ7,H7,I7.unpinned,r7,q7⟩
end
theorem ic {K:PySem.W.Frag}{a:Addr}{xs:List V}{g:TG}{tb:TS}{D:Ends}{σ:St}{H:Hp}(Pv:Nat->St->Hp->Prop)(h0:Pv 0 σ H)(hl:∀ i σ H,i≤xs.length->Pv i σ H->a7 K H a xs)
 (hs:∀ i x σ H,xs[i]?=some x->Pv i σ H->g x σ H fun σ2 H2=>tb { D with nx:=Pv (i + 1),ct:=Pv (i + 1),bk:=D.nx } σ2 H2)(hd:∀ σ H,Pv xs.length σ H->D.nx σ H):
 ∃ W:Nat->Nat->St->Hp->Prop,(∃ m,W 0 m σ H)∧∀ i m σ H,W i m σ H →
   ((zv K a).stop i H∧D.nx σ H)∨((zv K a).go i H∧∃ N:St->Hp->Prop,(∀ σ' H',N σ' H'->∃ m',m' < m∧W (i + 1) m' σ' H')∧∀ x H',(zv K a).yld i H x H'->g x σ H' fun σ2 H2=>tb { D with nx:=N,ct:=N,bk:=D.nx } σ2 H2):=by
 refine ⟨fun i m σ H=>m=xs.length - i∧i≤xs.length∧Pv i σ H,⟨xs.length,by simp,Nat.zero_le _,h0⟩,?_⟩
 rintro i m σ H ⟨rfl,hi,p⟩
 have q:=hl i σ H hi p
 by_cases hlt:i < xs.length
 ·refine .inr ⟨⟨xs,xs[i],q,by simp [hlt]⟩,Pv (i + 1),fun σ' H' p'=>⟨xs.length - (i + 1),by omega,rfl,hlt,p'⟩,fun x H' y=>?_⟩
  obtain ⟨e,y⟩:=y
  subst e
  exact hs i x σ _ (y xs q) p
 ·have e:i=xs.length:=by omega
  subst e
  exact .inl ⟨⟨xs,q,Nat.le_refl _⟩,hd σ H p⟩
theorem sr {lo:Int}{n:Nat}{g:TG}{tb:TS}{D:Ends}{σ:St}{H:Hp}(Pv:Nat->St->Hp->Prop)(h0:Pv 0 σ H)
 (hs:∀ i σ H,i < n->Pv i σ H->g (.int (lo + i)) σ H fun σ2 H2=>tb { D with nx:=Pv (i + 1),ct:=Pv (i + 1),bk:=D.nx } σ2 H2)(hd:∀ σ H,Pv n σ H->D.nx σ H):
 ∃ W:Nat->Nat->St->Hp->Prop,(∃ m,W 0 m σ H)∧∀ i m σ H,W i m σ H →
   ((yk lo n).stop i H∧D.nx σ H)∨((yk lo n).go i H∧∃ N:St->Hp->Prop,(∀ σ' H',N σ' H'->∃ m',m' < m∧W (i + 1) m' σ' H')∧∀ x H',(yk lo n).yld i H x H'->g x σ H' fun σ2 H2=>tb { D with nx:=N,ct:=N,bk:=D.nx } σ2 H2):=by
 refine ⟨fun i m σ H=>m=n - i∧i≤n∧Pv i σ H,⟨n,by simp,Nat.zero_le _,h0⟩,?_⟩
 rintro i m σ H ⟨rfl,hi,p⟩
 by_cases hlt:i < n
 ·refine .inr ⟨hlt,Pv (i + 1),fun σ' H' p'=>⟨n - (i + 1),by omega,rfl,hlt,p'⟩,fun x H' y=>?_⟩
  obtain ⟨e,y⟩:=y
  subst e y
  exact hs i σ _ hlt p
 ·have e:i=n:=by omega
  subst e
  exact .inl ⟨Nat.le_refl _,hd σ H p⟩
abbrev R2:=V->V->Hp->VK->Prop
def dz (X:Cx)(f:Value->Value->Sem Value)(r:R2):Prop :=
 ∀ (pins:List (Addr × Obj))(s:Shared)(σ:St)(H:Hp)(x y:V)(v u:Value)(Q:VK),Inv X pins σ H s->aC x v->aC y u->r x y H Q →
   wpAny (model X.prog X.w) X.A (f v u) (EP X pins σ Q) X.xe s
def Bx (X:Cx)(f:Value->Sem Value)(r:V->Hp->VK->Prop):Prop :=
 ∀ (pins:List (Addr × Obj))(s:Shared)(σ:St)(H:Hp)(x:V)(v:Value)(Q:VK),Inv X pins σ H s->aC x v->r x H Q →
   wpAny (model X.prog X.w) X.A (f v) (EP X pins σ Q) X.xe s
def cy (X:Cx)(f:Value)(r:List V->Hp->VK->Prop):Prop :=
 ∀ (pins:List (Addr × Obj))(s:Shared)(σ:St)(H:Hp)(xs:List V)(us:List Value)(Q:VK),Inv X pins σ H s->aI xs us->r xs H Q →
   wpAny (model X.prog X.w) X.A (call f us) (EP X pins σ Q) X.xe s
def Bu (X:Cx)(r:V->Hp->(Bool->Hp->Prop)->Prop):Prop :=
 ∀ (pins:List (Addr × Obj))(s:Shared)(σ:St)(H:Hp)(x:V)(v:Value)(Q:Bool->Hp->Prop),Inv X pins σ H s->aC x v->r x H Q →
   wpAny (model X.prog X.w) X.A (truthy v) (TP X pins σ Q) X.xe s
def n5 (r:R2)(ta tb:TE):TE:=fun σ H Q=>ta σ H fun x H1=>tb σ H1 fun y H2=>r x y H2 Q
def Cb (r:V->Hp->VK->Prop)(ta:TE):TE:=fun σ H Q=>ta σ H fun x H1=>r x H1 Q
def rI (C:Int->Int->Prop)(g:Int->Int->V):R2:=fun x y H Q=>∃ i j,x = .int i∧y = .int j∧C i j∧Q (g i j) H
def uV (g:Int->Int->V):R2:=fun x y H Q=>∃ i j,x = .int i∧y = .int j∧Q (g i j) H
def rU (g:Int->V):V->Hp->VK->Prop:=fun x H Q=>∃ i,x = .int i∧Q (g i) H
section
variable {X:Cx}{a b c:Expr}{ta tb tc:TE}{pos:Pos}
theorem yE (ha:PE X a ta)(hb:PE X b tb){pins:List (Addr × Obj)}{s:Shared}{σ:St}{H:Hp}{R:V->V->Hp->Prop}(I:Inv X pins σ H s)
 (h:ta σ H fun x H1=>tb σ H1 fun y H2=>R x y H2){Q:Value->Shared->Prop}{f:Value->Value->Sem Value}
 (hf:∀ v u s2 x y H2,Inv X pins σ H2 s2->aC x v->aC y u->R x y H2->wpAny (model X.prog X.w) X.A (f v u) Q X.xe s2):
 wpAny (model X.prog X.w) X.A (eval a X.env) (fun v s₁=>wpAny (model X.prog X.w) X.A (eval b X.env) (fun u s₂=>wpAny (model X.prog X.w) X.A (f v u) Q X.xe s₂) X.xe s₁) X.xe s:=by
 refine br (ha pins s σ H _ I h) fun v s1 ⟨x,H1,I1,r1,q1⟩=>?_
 refine br (hb pins s1 σ H1 _ I1 q1) fun u s2 ⟨y,H2,I2,r2,q2⟩=>?_
 exact hf v u s2 x y H2 I2 r1 r2 q2
theorem aD {op:Operator}{r:R2}(ho:dz X (binaryOp op) r)(ha:PE X a ta)(hb:PE X b tb):PE X (.BinOp a op b pos) (n5 r ta tb):=by
 intro pins s σ H Q I h
 exact wpAny_BinOp (yE ha hb I h fun v u s2 x y H2 I2 rx ry q=>ho pins s2 σ H2 x y v u Q I2 rx ry q)
theorem vX {op:UnaryOp}{r:V->Hp->VK->Prop}(ho:Bx X (unaryOp op) r)(ha:PE X a ta):PE X (.UnaryOp op a pos) (Cb r ta):=by
 intro pins s σ H Q I h
 exact UnaryOp_ (br (ha pins s σ H _ I h) fun v s1 ⟨x,H1,I1,r1,q1⟩=>ho pins s1 σ H1 x v Q I1 r1 q1)
theorem yh {f:Value->Value->Sem Value}{C:Int->Int->Prop}{g:Int->Int->Int}
 (rule:∀ (i j:Int)(t u:Tok)(s:Shared)(Q:Value->Shared->Prop)(E:Value->Shared->Prop),C i j->Q (.int (g i j) s.toks) { s with toks:=s.toks + 1 }->wpAny (model X.prog X.w) X.A (f (.int i t) (.int j u)) Q E s):
 dz X f (rI C fun i j=>.int (g i j)):=by
 intro pins s σ H x y v u Q I rx ry h
 obtain ⟨i,j,rfl,rfl,hc,q⟩:=h
 obtain ⟨t,rfl⟩:=rx
 obtain ⟨t',rfl⟩:=ry
 exact rule i j t t' s _ _ hc ⟨.int (g i j),H,I.tok _,⟨_,rfl⟩,q⟩
theorem zQ {f:Value->Value->Sem Value}{g:Int->Int->Int}
 (rule:∀ (i j:Int)(t u:Tok)(s:Shared)(Q:Value->Shared->Prop)(E:Value->Shared->Prop),Q (.int (g i j) s.toks) { s with toks:=s.toks + 1 }->wpAny (model X.prog X.w) X.A (f (.int i t) (.int j u)) Q E s):
 dz X f (uV fun i j=>.int (g i j)):=by
 intro pins s σ H x y v u Q I rx ry h
 obtain ⟨i,j,rfl,rfl,q⟩:=h
 obtain ⟨t,rfl⟩:=rx
 obtain ⟨t',rfl⟩:=ry
 exact rule i j t t' s _ _ ⟨.int (g i j),H,I.tok _,⟨_,rfl⟩,q⟩
theorem wC {f:Value->Value->Sem Value}{g:Int->Int->Bool}
 (rule:∀ (i j:Int)(t u:Tok)(s:Shared)(Q:Value->Shared->Prop)(E:Value->Shared->Prop),Q (.bool (g i j)) s->wpAny (model X.prog X.w) X.A (f (.int i t) (.int j u)) Q E s):
 dz X f (uV fun i j=>.bl (g i j)):=by
 intro pins s σ H x y v u Q I rx ry h
 obtain ⟨i,j,rfl,rfl,q⟩:=h
 obtain ⟨t,rfl⟩:=rx
 obtain ⟨t',rfl⟩:=ry
 exact rule i j t t' s _ _ ⟨.bl (g i j),H,I,rfl,q⟩
def A9 (i j:Int):Prop:=0 < j∧j < 1073741824
def Bq (i j:Int):Prop:=0≤j∧j≤1000000∧i.natAbs < 2 ^ 64
def rP (i j:Int):Prop:=(-(2 ^ 64) < i∧i < 2 ^ 64)∨(-(2 ^ 64) < j∧j < 2 ^ 64)
theorem rP.ok {i j:Int}(h:rP i j):IntMulOk i j:=by
 rcases h with ⟨h1,h2⟩ | ⟨h1,h2⟩
 ·exact .of_left (intBits_le_64 h1 h2)
 ·exact .of_right (intBits_le_64 h1 h2)
theorem dN:dz X (binaryOp .Add) (uV fun i j=>.int (i + j)):=zQ fun _ _ _ _ _ _ _ q=>add_int q
theorem oU:dz X (binaryOp .Sub) (uV fun i j=>.int (i - j)):=zQ fun _ _ _ _ _ _ _ q=>sub_int q
theorem c6:dz X (binaryOp .Mult) (rI rP fun i j=>.int (i * j)):=yh fun _ _ _ _ _ _ _ hc q=>mul_int q hc.ok
theorem wk:dz X (binaryOp .FloorDiv) (rI A9 fun i j=>.int (i / j)):=yh fun i j _ _ _ _ _ hc q=>by
 have h1:(0:Int) < j:=hc.1
 have h2:j < 1073741824:=hc.2
 exact floordiv_int (by omega) (by rw [Int.fdiv_eq_ediv_of_nonneg i (by omega)]; exact q) (.inl (PyProof.noPylong_small (by omega)))
theorem cO:dz X (binaryOp .Mod) (rI (fun _ j=>0 < j) fun i j=>.int (i % j)):=yh fun i j _ _ _ _ _ hc q=>by
 have h1:(0:Int) < j:=hc
 exact mod_int' (by omega) (by rw [Int.fmod_eq_emod_of_nonneg i (by omega)]; exact q)
theorem qd:dz X (binaryOp .Mod) (rI (fun _ j=>j≠0) fun i j=>.int (i.fmod j)):=yh fun _ _ _ _ _ _ _ hc q=>mod_int' hc q
theorem gB:dz X (binaryOp .Pow) (rI Bq fun i j=>.int (i ^ j.toNat)):=yh fun _ _ _ _ _ _ _ hc q=>pow_int_small hc.1 hc.2.1 hc.2.2 q
theorem Ce {f:Value->Sem Value}{g:Int->Int}
 (rule:∀ (i:Int)(t:Tok)(s:Shared)(Q:Value->Shared->Prop)(E:Value->Shared->Prop),Q (.int (g i) s.toks) { s with toks:=s.toks + 1 }->wpAny (model X.prog X.w) X.A (f (.int i t)) Q E s):
 Bx X f (rU fun i=>.int (g i)):=by
 intro pins s σ H x v Q I rx h
 obtain ⟨i,rfl,q⟩:=h
 obtain ⟨t,rfl⟩:=rx
 exact rule i t s _ _ ⟨.int (g i),H,I.tok _,⟨_,rfl⟩,q⟩
theorem n8:Bx X (unaryOp .USub) (rU fun i=>.int (-i)):=Ce fun _ _ _ _ _ q=>neg_int q
end
def As:V->V->Bool
 | .non,.non=>true | .non,.int _=>true | .int _,.non=>true | .non,.bl _=>true | .bl _,.non=>true | .non,.str _=>true | .str _,.non=>true
 | .int _,.int _=>true | .bl _,.bl _=>true | .str _,.str _=>true | .byt _,.byt _=>true
 | .int _,.str _=>true | .str _,.int _=>true | .bl _,.str _=>true | .str _,.bl _=>true
 | _,_=>false
def rEq:R2:=fun x y H Q=>As x y=true∧Q (.bl (decide (x=y))) H
def rNe:R2:=fun x y H Q=>As x y=true∧Q (.bl (!decide (x=y))) H
theorem qG {i j:Int}:decide (V.int i=V.int j)=(i == j):=by
 rw [Bool.eq_iff_iff]
 simp
theorem vi {i j:Bool}:decide (V.bl i=V.bl j)=(i == j):=by
 rw [Bool.eq_iff_iff]
 simp
theorem qD {i j:Str}:decide (V.str i=V.str j)=(i == j):=by
 rw [Bool.eq_iff_iff]
 simp
theorem qh {i j:Array UInt8}:decide (V.byt i=V.byt j)=(i.toList == j.toList):=by
 rw [Bool.eq_iff_iff]
 cases i
 cases j
 simp
section
variable {X:Cx}{a b c:Expr}{ta tb tc:TE}{pos:Pos}
theorem aR {pins:List (Addr × Obj)}{σ:St}{H:Hp}{s:Shared}{Q:VK}{k k':Bool}(I:Inv X pins σ H s)(q:Q (.bl k) H)(e:k=k'):EP X pins σ Q (.bool k') s:=by
 subst e
 exact ⟨.bl k,H,I,rfl,q⟩
theorem cx:dz X (compareOp .Eq) rEq:=by
 intro pins s σ H x y v u Q I rx ry h
 obtain ⟨hs,q⟩:=h
 cases x with
 | non =>
   cases rx
   cases y with
   | non=>cases ry; exact PySem.EqNone.eq_none_none (aR I q (by simp))
   | bl j=>cases ry; exact PySem.EqNone.eq_none_bool (aR I q (by simp))
   | int j=>obtain ⟨t',rfl⟩:=ry; exact PySem.EqNone.eq_none_int (aR I q (by simp))
   | str j=>obtain ⟨t',rfl⟩:=ry; exact PySem.EqNone.eq_none_str (aR I q (by simp))
   | _=>exact absurd (show false=true from hs) Bool.false_ne_true
 | bl i =>
   cases rx
   cases y with
   | non=>cases ry; exact PySem.EqNone.eq_bool_none (aR I q (by simp))
   | bl j=>cases ry; exact eq_bool (aR I q vi)
   | str j=>obtain ⟨t',rfl⟩:=ry; exact PySem.EqMixed.eq_bool_str (aR I q (by simp))
   | _=>exact absurd (show false=true from hs) Bool.false_ne_true
 | int i =>
   obtain ⟨t,rfl⟩:=rx
   cases y with
   | non=>cases ry; exact PySem.EqNone.eq_int_none (aR I q (by simp))
   | int j=>obtain ⟨t',rfl⟩:=ry; exact eq_int (aR I q qG)
   | str j=>obtain ⟨t',rfl⟩:=ry; exact PySem.EqMixed.eq_int_str (aR I q (by simp))
   | _=>exact absurd (show false=true from hs) Bool.false_ne_true
 | str i =>
   obtain ⟨t,rfl⟩:=rx
   cases y with
   | non=>cases ry; exact PySem.EqNone.eq_str_none (aR I q (by simp))
   | bl j=>cases ry; exact PySem.EqMixed.eq_str_bool (aR I q (by simp))
   | int j=>obtain ⟨t',rfl⟩:=ry; exact PySem.EqMixed.eq_str_int (aR I q (by simp))
   | str j=>obtain ⟨t',rfl⟩:=ry; exact eq_str (aR I q qD)
   | _=>exact absurd (show false=true from hs) Bool.false_ne_true
 | byt i =>
   obtain ⟨t,rfl⟩:=rx
   cases y with
   | byt j=>obtain ⟨t',rfl⟩:=ry; exact PySem.W.eq_bytes (aR I q qh)
   | _=>exact absurd (show false=true from hs) Bool.false_ne_true
 | _=>cases y <;> exact absurd (show false=true from hs) Bool.false_ne_true
theorem dw:dz X (compareOp .NotEq) rNe:=by
 intro pins s σ H x y v u Q I rx ry h
 obtain ⟨hs,q⟩:=h
 cases x with
 | non =>
   cases rx
   cases y with
   | non=>cases ry; exact PySem.EqNone.ne_none_none (aR I q (by simp))
   | bl j=>cases ry; exact PySem.EqNone.ne_none_bool (aR I q (by simp))
   | int j=>obtain ⟨t',rfl⟩:=ry; exact PySem.EqNone.ne_none_int (aR I q (by simp))
   | str j=>obtain ⟨t',rfl⟩:=ry; exact PySem.EqNone.ne_none_str (aR I q (by simp))
   | _=>exact absurd (show false=true from hs) Bool.false_ne_true
 | bl i =>
   cases rx
   cases y with
   | non=>cases ry; exact PySem.EqNone.ne_bool_none (aR I q (by simp))
   | bl j=>cases ry; exact ne_bool (aR I q (congrArg not vi))
   | str j=>obtain ⟨t',rfl⟩:=ry; exact PySem.EqMixed.ne_bool_str (aR I q (by simp))
   | _=>exact absurd (show false=true from hs) Bool.false_ne_true
 | int i =>
   obtain ⟨t,rfl⟩:=rx
   cases y with
   | non=>cases ry; exact PySem.EqNone.ne_int_none (aR I q (by simp))
   | int j=>obtain ⟨t',rfl⟩:=ry; exact ne_int (aR I q (congrArg not qG))
   | str j=>obtain ⟨t',rfl⟩:=ry; exact PySem.EqMixed.ne_int_str (aR I q (by simp))
   | _=>exact absurd (show false=true from hs) Bool.false_ne_true
 | str i =>
   obtain ⟨t,rfl⟩:=rx
   cases y with
   | non=>cases ry; exact PySem.EqNone.ne_str_none (aR I q (by simp))
   | bl j=>cases ry; exact PySem.EqMixed.ne_str_bool (aR I q (by simp))
   | int j=>obtain ⟨t',rfl⟩:=ry; exact PySem.EqMixed.ne_str_int (aR I q (by simp))
   | str j=>obtain ⟨t',rfl⟩:=ry; exact ne_str (aR I q (congrArg not qD))
   | _=>exact absurd (show false=true from hs) Bool.false_ne_true
 | byt i =>
   obtain ⟨t,rfl⟩:=rx
   cases y with
   | byt j=>obtain ⟨t',rfl⟩:=ry; exact PySem.W.ne_bytes (aR I q (congrArg not qh))
   | _=>exact absurd (show false=true from hs) Bool.false_ne_true
 | _=>cases y <;> exact absurd (show false=true from hs) Bool.false_ne_true
theorem gO:dz X (compareOp .Lt) (uV fun i j=>.bl (decide (i < j))):=wC fun _ _ _ _ _ _ _ q=>lt_int q
theorem xH:dz X (compareOp .LtE) (uV fun i j=>.bl (decide (i≤j))):=wC fun _ _ _ _ _ _ _ q=>le_int q
theorem pY:dz X (compareOp .Gt) (uV fun i j=>.bl (decide (j < i))):=wC fun _ _ _ _ _ _ _ q=>gt_int q
theorem ud:dz X (compareOp .GtE) (uV fun i j=>.bl (decide (j≤i))):=wC fun _ _ _ _ _ _ _ q=>ge_int q
theorem yw:dz X (compareOp .Is) (fun x y H Q=>y = .non∧Q (.bl (decide (x = .non))) H):=by
 intro pins s σ H x y v u Q I rx ry h
 obtain ⟨rfl,q⟩:=h
 cases ry
 refine is_none_gen (aR I q ?_)
 cases x <;> first
  | (cases rx; rfl)
  | (obtain ⟨t,rfl⟩:=rx; rfl)
theorem ax (b:Expr){op:CmpOp}(h:op ≠ .In:=by decide)(h2:op ≠ .NotIn:=by decide):behindInMarks op b=false:=by
 have e1:(op == CmpOp.In)=false:=by cases op <;> first | rfl | exact absurd rfl h
 have e2:(op == CmpOp.NotIn)=false:=by cases op <;> first | rfl | exact absurd rfl h2
 cases b <;> simp [behindInMarks,e1,e2]
theorem bp {op:CmpOp}{r:R2}(ho:dz X (compareOp op) r)(ha:PE X a ta)(hb:PE X b tb)(hm:behindInMarks op b=false):PE X (.Compare a [op] [b] pos) (n5 r ta tb):=by
 intro pins s σ H Q I h
 exact wpAny_Compare1 (yE ha hb I h fun v u s2 x y H2 I2 rx ry q=>ho pins s2 σ H2 x y v u Q I2 rx ry q) hm
def zR (t:TE):TT:=fun σ H Q=>t σ H fun x H'=>∃ k,x = .bl k∧Q k H'
theorem aE {op:CmpOp}{r:R2}(ho:dz X (compareOp op) r)(ha:PE X a ta)(hb:PE X b tb)(hm:behindInMarks op b=false):PT X (.Compare a [op] [b] pos) (zR (n5 r ta tb)):=by
 intro pins s σ H Q I h
 refine wpAny_isTrue_Compare1 (br (ha pins s σ H _ I h) fun v s1 ⟨x,H1,I1,r1,q1⟩=>br (hb pins s1 σ H1 _ I1 q1) fun u s2 ⟨y,H2,I2,r2,q2⟩ =>
  br (ho pins s2 σ H2 x y v u _ I2 r1 r2 q2) fun c s3 ⟨z,H3,I3,r3,k,e,q3⟩=>?_) hm
 subst e
 cases r3
 exact wpAny_truthy_bool ⟨H3,I3,q3⟩
def zt (r r':R2)(ta tb tc:TE):TE:=fun σ H Q=>ta σ H fun x H1=>tb σ H1 fun y H2=>r x y H2 fun z H3=>∃ k,z = .bl k ∧
 (if k=true then tc σ H3 fun w' H4=>r' y w' H4 Q else Q (.bl false) H3)
theorem mV {op op':CmpOp}{r r':R2}(ho:dz X (compareOp op) r)(ho':dz X (compareOp op') r')(ha:PE X a ta)(hb:PE X b tb)(hc:PE X c tc)
 (hm:lastMarks [op,op'] [b,c]=false:=by with_unfolding_all rfl):PE X (.Compare a [op,op'] [b,c] pos) (zt r r' ta tb tc):=by
 intro pins s σ H Q I h
 refine Compare_chain (br (ha pins s σ H _ I h) fun v s1 ⟨x,H1,I1,r1,q1⟩=>chain_link (br (hb pins s1 σ H1 _ I1 q1) fun u s2 ⟨y,H2,I2,r2,q2⟩ =>
  br (ho pins s2 σ H2 x y v u _ I2 r1 r2 q2) fun d s3 ⟨z,H3,I3,r3,k,e,q3⟩=>?_)) hm
 subst e
 cases r3
 refine wpAny_truthy_bool ?_
 cases k with
 | false=>exact ite_ff ⟨.bl false,H3,I3,rfl,q3⟩
 | true=>exact ite_tt (chain_last (br (hc pins s3 σ H3 _ I3 q3) fun w' s4 ⟨z',H4,I4,r4,q4⟩=>ho' pins s4 σ H4 y z' u w' Q I4 r2 r4 q4))
def zP (K:PySem.W.Frag)(x:V)(H:Hp)(k:Bool):Prop :=
 match x with
 | .non=>k=false
 | .bl b=>k=b
 | .int i=>k=(i != 0)
 | .str y=>y.length≤sizeLine∧k=((y.length:Int) != 0)
 | .byt y=>y.size≤sizeLine∧k=((y.size:Int) != 0)
 | .ref p=>(∃ xs,a7 K H p xs∧k = !xs.isEmpty)∨(∃ xs,bg K H p xs∧k = !xs.isEmpty)∨∃ kvs,H p=some (.dK kvs)∧k = !kvs.isEmpty
 | _=>False
theorem oa {κ:Type}{kvs:List (κ × V)}{vs:List (κ × Value)}(r:KV kvs vs):(!vs.isEmpty) = !kvs.isEmpty:=by
 cases r <;> rfl
theorem i7 {xs:List V}{its:List Value}(r:aI xs its):(!its.toArray.isEmpty) = !xs.isEmpty:=by
 cases r <;> simp
theorem iT:(sizeLine:Nat) < 2 ^ 63:=by rw [sizeLine_eq]; decide
theorem yv:Bu X (fun x H Q=>∃ k,zP X.K x H k∧Q k H):=by
 intro pins s σ H x v Q I rx h
 obtain ⟨k,e,q⟩:=h
 have hl:=iT
 have hs:sizeLine=16777216:=sizeLine_eq
 cases x with
 | non =>
   cases rx
   have e':k=false:=e
   subst e'
   exact truthy_none ⟨H,I,q⟩
 | bl b =>
   cases rx
   have e':k=b:=e
   subst e'
   exact wpAny_truthy_bool ⟨H,I,q⟩
 | int i =>
   obtain ⟨t,rfl⟩:=rx
   have e':k=(i != 0):=e
   subst e'
   exact PySem.P.truthy_int ⟨H,I,q⟩
 | str y =>
   obtain ⟨t,rfl⟩:=rx
   obtain ⟨hy,e'⟩:y.length≤sizeLine∧k=((y.length:Int) != 0):=e
   subst e'
   exact PySem.P.truthy_str (by omega) ⟨H,I.tok _,q⟩
 | byt y =>
   obtain ⟨t,rfl⟩:=rx
   obtain ⟨hy,e'⟩:y.size≤sizeLine∧k=((y.size:Int) != 0):=e
   subst e'
   exact PySem.W.truthy_bytes (by omega) ⟨H,I.tok _,q⟩
 | ref p =>
   cases rx
   have e':(∃ xs,a7 X.K H p xs∧k = !xs.isEmpty)∨(∃ xs,bg X.K H p xs∧k = !xs.isEmpty)∨∃ kvs,H p=some (.dK kvs)∧k = !kvs.isEmpty:=e
   rcases e' with ⟨xs,hx,e'⟩ | ⟨xs,hx,e'⟩ | ⟨kvs,hx,e'⟩
   ·subst e'
    obtain ⟨its,r,pl,hz⟩:=I.list hx
    have hlen:=r.length
    exact wpAny_truthy_list pl.isList (by simp only [List.size_toArray]; omega) ⟨H,I.tok _,by rw [i7 r]; exact q⟩
   ·subst e'
    obtain ⟨its,r,pl,hz⟩:=I.tuple hx
    have hlen:=r.length
    exact truthy_tuple pl (by simp only [List.size_toArray]; omega) ⟨H,I.tok _,by rw [i7 r]; exact q⟩
   ·subst e'
    obtain ⟨hz,hS,vs,r,m⟩:kvs.length≤sizeLine∧(p == sysModules)=false∧∃ vs,KV kvs vs∧s.heap.DictOf (bq X.prog X.w) p vs:=I.hok p _ hx
    have hlen:kvs.length=vs.length:=Paired.length r
    exact wpAny_truthy_dict hS m (by omega) ⟨H,I.tok _,by rw [oa r]; exact q⟩
 | _=>exact (show False from e).elim
theorem iV (ha:PE X a ta)(he:∀ cX,isTrue a X.env cX=(do let v ← cX; standAt a.pos; holding [v] (truthy v))):
 PT X a (fun σ H Q=>ta σ H fun x H'=>∃ k,zP X.K x H' k∧Q k H'):=by
 intro pins s σ H Q I h
 exact isTrue_plain (br (ha pins s σ H _ I h) fun v s1 ⟨x,H1,I1,r1,q1⟩=>yv pins s1 σ H1 x v Q I1 r1 q1) (he _)
theorem bz:dz X (binaryOp .Add) (fun x y H Q=>∃ i j,x = .str i∧y = .str j∧i.length + j.length≤sizeLine∧Q (.str (i++j)) H):=by
 intro pins s σ H x y v u Q I rx ry h
 obtain ⟨i,j,rfl,rfl,hz,q⟩:=h
 obtain ⟨t,rfl⟩:=rx
 obtain ⟨t',rfl⟩:=ry
 exact add_str (fun t' tk=>⟨.str (i++j),H,I.tok _,⟨_,rfl⟩,q⟩) hz
theorem c0 {x:V}{us:List Value}(r:aI [x] us):∃ u,us=[u]∧aC x u:=by
 cases r with
 | cons r1 r2=>cases r2; exact ⟨_,rfl,r1⟩
theorem p9 {x y:V}{us:List Value}(r:aI [x,y] us):∃ u w',us=[u,w']∧aC x u∧aC y w':=by
 cases r with
 | cons r1 r2 =>
   cases r2 with
   | cons r3 r4=>cases r4; exact ⟨_,_,rfl,r1,r3⟩
theorem cN:cy X (.builtin "abs") (fun xs H Q=>∃ i,xs=[.int i]∧Q (.int (if i < 0 then -i else i)) H):=by
 intro pins s σ H xs us Q I r h
 obtain ⟨i,rfl,q⟩:=h
 obtain ⟨u,rfl,t,rfl⟩:=c0 r
 exact call_abs_int fun u tk=>⟨.int (if i < 0 then -i else i),H,I.tok _,⟨_,rfl⟩,q⟩
theorem rJ (hc:X.calm=true):cy X (.builtin "max") (fun xs H Q=>∃ i j,xs=[.int i,.int j]∧Q (.int (if j > i then j else i)) H):=by
 intro pins s σ H xs us Q I r h
 obtain ⟨i,j,rfl,q⟩:=h
 obtain ⟨u,w',rfl,⟨t,rfl⟩,⟨t',rfl⟩⟩:=p9 r
 refine max_two_ints (I.ok.hd hc) fun h' tk k=>⟨_,H,I.kept k,?_,q⟩
 by_cases hj:j > i
 ·rw [if_pos hj,if_pos hj]; exact ⟨_,rfl⟩
 ·rw [if_neg hj,if_neg hj]; exact ⟨_,rfl⟩
theorem rG (hc:X.calm=true):cy X (.builtin "min") (fun xs H Q=>∃ i j,xs=[.int i,.int j]∧Q (.int (if j < i then j else i)) H):=by
 intro pins s σ H xs us Q I r h
 obtain ⟨i,j,rfl,q⟩:=h
 obtain ⟨u,w',rfl,⟨t,rfl⟩,⟨t',rfl⟩⟩:=p9 r
 refine min_two_ints (I.ok.hd hc) fun h' tk k=>⟨_,H,I.kept k,?_,q⟩
 by_cases hj:j < i
 ·rw [if_pos hj,if_pos hj]; exact ⟨_,rfl⟩
 ·rw [if_neg hj,if_neg hj]; exact ⟨_,rfl⟩
theorem cK:cy X (.type "int") (fun xs H Q=>(∃ i,xs=[.int i]∧Q (.int i) H)∨∃ k,xs=[.bl k]∧Q (.int (if k then 1 else 0)) H):=by
 intro pins s σ H xs us Q I r h
 rcases h with ⟨i,rfl,q⟩ | ⟨k,rfl,q⟩
 ·obtain ⟨u,rfl,t,rfl⟩:=c0 r
  exact call_int_int ⟨.int i,H,I,⟨_,rfl⟩,q⟩
 ·obtain ⟨u,rfl,r1⟩:=c0 r
  cases r1
  exact call_int_bool ⟨.int (if k then 1 else 0),H,I.tok _,⟨_,rfl⟩,q⟩
theorem bU:cy X (.type "str") (fun xs H Q=>∃ i,xs=[.int i]∧i.natAbs.log2 < 1920∧Q (.str (toString i)) H):=by
 intro pins s σ H xs us Q I r h
 obtain ⟨i,rfl,hz,q⟩:=h
 obtain ⟨u,rfl,t,rfl⟩:=c0 r
 exact PySem.P.str_of_int hz ⟨.str _,H,I.tok _,⟨_,rfl⟩,q⟩
end
structure ObjM (h:Heap)(x dx C:Addr)(mA:Str->Option Value):Prop where
 obj:h.get? x=some (PySem.W.instObj C dx)
 ns:h.Ns1 dx mA
 ne:dx≠x
theorem qX {h:Heap}{dx:Addr}{mA:Str->Option Value}(n:h.Ns1 dx mA):∃ od,h.get? dx=some od∧∀ name,PySem.W.lookIn name od=some (mA name):=by
 obtain ⟨o,es,ep,ho,hd,hk,_,hm⟩:=n
 refine ⟨o,ho,fun name=>?_⟩
 have e:=hm name
 unfold nsFind findBy at e
 rw [← Array.find?_toList] at e
 unfold PySem.W.lookIn
 rw [hd]
 dsimp only
 split
 ·rename_i y q
  rw [q] at e
  exact congrArg some e
 ·rename_i q
  rw [q] at e
  have a:es.toList.any (·.refKey)=false:=by
   rw [List.any_eq_false]
   intro y hy
   obtain ⟨z,t,hkey⟩:=hk y (Array.mem_toList_iff.mp hy)
   simp [DictEntry.refKey,hkey]
  have a':¬ es.toList.any (·.refKey)=true:=by rw [a]; exact Bool.false_ne_true
  rw [if_neg a']
  exact congrArg some e
theorem ObjM.look {h:Heap}{x dx C:Addr}{mA:Str->Option Value}(I:ObjM h x dx C mA):∃ od,PySem.W.InstAt h x (PySem.W.instObj C dx) C (some od)∧∀ name,PySem.W.lookIn name od=some (mA name):=
 let ⟨od,ho,hl⟩:=qX I.ns
 ⟨od,⟨I.obj,rfl,rfl,ho⟩,hl⟩
section
variable {prog:Program}{w:World}{A:Around}{E:Value->Shared->Prop}{s:Shared}{K:PySem.W.Frag}{x dx C f:Addr}{mA:Str->Option Value}{name:Str}{v:Value}
theorem wJ {expr:Bool}{Q:Value->Shared->Prop}(X:K.In s.heap)(I:ObjM s.heap x dx C mA)(hg:PySem.W.plainGet K C name=true)(hh:PySem.W.hasDictIn K C=true)
 (ha:PySem.W.findIn K (.ref C) name=some none)(hv:mA name=some v)(hv':PySem.W.handedIn v=true)(h:Q v { s with toks:=s.toks + 1 }):
 wpAny (model prog w) A (getAttr (.ref x) name expr) Q E s:=by
 obtain ⟨od,J,hl⟩:=I.look
 exact PySem.W.get_value X J (PySem.W.plainGet_of hg).1 (PySem.W.findObj_own hh ha rfl (by rw [hl,hv])) hv' h
theorem uf {pl:Sem Bool}{Q:Value × List Value->Shared->Prop}(X:K.In s.heap)(I:ObjM s.heap x dx C mA)(hg:PySem.W.plainGet K C name=true)
 (hf:PySem.W.findIn K (.ref C) name=some (some (.ref f)))(ht:PySem.W.isFn K (.ref f)=true)(hv:mA name=none)(h:Q (.ref f,[.ref x]) s):
 wpAny (model prog w) A (getMethod (.ref x) name pl) Q E s:=by
 obtain ⟨od,J,hl⟩:=I.look
 exact PySem.W.method_fn X J (PySem.W.plainGet_of hg).1 (PySem.W.plainGet_of hg).2 hf (beq_iff_eq.mp ht) (by show (PySem.W.lookIn name od).map (·.isSome)=some false; rw [hl,hv]; rfl) h
theorem wL {ns:List Str}{Q:Unit->Shared->Prop}(X:K.In s.heap)(I:ObjM s.heap x dx C mA)
 (hs:PySem.W.findIn K (.ref C) "__setattr__"=some (some (.builtin "object.__setattr__")))(hp:PySem.W.plainOver K C=true)(ht:PySem.W.takerIn K C name=some none)(hh:PySem.W.hasDictIn K C=true)
 (hw:PySem.Within mA ns)(hsz:ns.length≤sizeLine)
 (h:∀ h',ObjM h' x dx C (fun y=>if y=name then some v else mA y)->Heap.SameBut dx s.heap h'->Q () { s with heap:=h',toks:=s.toks + 2 }):
 wpAny (model prog w) A (setAttr (.ref x) name v) Q E s:=by
 obtain ⟨od,J,hl⟩:=I.look
 refine PySem.W.set_plain X J hs (PySem.W.osa_open (s:={ s with toks:=s.toks + 1 }) (r:=none) X J hp ht fun b=>?_)
 obtain ⟨cd,hc,hd'⟩:=PySem.W.any_some hh
 have hx:s.heap.get? x=some ⟨.ref C,some dx,.plain,#[]⟩:=I.obj
 refine wpAny_bind (wpAny_pure (wpAny_bind (wpAny_bind (wpAny_loadPart hx (wpAny_bind (PySem.W.Looks.here (s:={ s with toks:=s.toks + 1 }) (PySem.W.looks_clsIn X hc) ?_))))))
 rw [hd']
 refine wpAny_pure (a:=some dx) (wpAny_bind (wpAny_pure (wpAny_bind ?_)))
 refine wpAny_nsSet1 (s:={ s with toks:=s.toks + 1 }) I.ns fun h' hn2 hs2=>?_
 obtain ⟨oD,esD,epD,hoD,hdD,hcD⟩:=hn2.count (PySem.Within.cons name v hw)
 refine wpAny_bind (wpAny_lookBehind hoD (by rw [hdD]; exact pastItsLine_dict (Nat.le_trans hcD (by rw [List.length_cons]; omega))) ?_)
 exact wpAny_pure (h _ ⟨(hs2.2 _ (Ne.symm I.ne)).trans I.obj,hn2,I.ne⟩ hs2)
theorem tX {R:Result->Shared->Prop}{vs:List Value}{kw:List (Str × Value)}(X:K.In s.heap)(hm:PySem.W.makesIn K C=true)
 (hi:PySem.W.findIn K (.ref C) "__init__"=some (some (.ref f)))(hf:PySem.W.typeIn K (.ref f)=some (.type "function"))
 (h:codeAny (model prog w) (A.under (.builtin "type.__call__" ⟨.ref C :: vs,kw⟩)) (.call (.ref f) ⟨.ref (s.heap.objs.size + 1):: vs,kw⟩) (PySem.W.InitBack (s.heap.objs.size + 1) R)
  { s with heap:=(s.heap.push PySem.W.emptyDict).push (PySem.W.instObj C s.heap.objs.size) }):
 codeAny (model prog w) A (.call (.ref C) ⟨vs,kw⟩) R s:=by
 obtain ⟨hh,g,d,t,os⟩:=s
 exact PySem.W.make_core (PySem.W.makes_of X hm) (PySem.W.looks_findIn X hi) (fun self=>PySem.W.bind_fn X self hf) (.inl rfl) h
end
def cM (f:Str)(v:V):List (Str × V)->List (Str × V)
 | []=>[(f,v)]
 | (g,x):: r=>if g=f then (g,v):: r else (g,x):: cM f v r
theorem gN (f g:Str)(v:V):∀ fs:List (Str × V),(cM f v fs).lookup g=if g=f then some v else fs.lookup g
 | []=>by
   show List.lookup g [(f,v)]=_
   by_cases h:g=f
   ·have hb:(g == f)=true:=beq_iff_eq.mpr h
    simp only [List.lookup,hb,if_pos h]
   ·have hb:(g == f)=false:=beq_eq_false_iff_ne.mpr h
    simp only [List.lookup,hb,if_neg h]
 | (k,x):: r=>by
   have ih:=gN f g v r
   rw [show cM f v ((k,x):: r)=(if k=f then (k,v):: r else (k,x):: cM f v r) from rfl]
   by_cases hk:k=f
   ·rw [if_pos hk]
    by_cases h:g=k
    ·have hb:(g == k)=true:=beq_iff_eq.mpr h
     simp only [List.lookup,hb,if_pos (h.trans hk)]
    ·have hb:(g == k)=false:=beq_eq_false_iff_ne.mpr h
     simp only [List.lookup,hb,if_neg (fun e:g=f=>h (e.trans hk.symm))]
   ·rw [if_neg hk]
    by_cases h:g=k
    ·have hb:(g == k)=true:=beq_iff_eq.mpr h
     simp only [List.lookup,hb,if_neg (fun e:g=f=>hk (h.symm.trans e))]
    ·have hb:(g == k)=false:=beq_eq_false_iff_ne.mpr h
     simp only [List.lookup,hb]
     exact ih
theorem gz (f:Str)(v:V):∀ fs:List (Str × V),f∈(cM f v fs).map (·.1)∧∀ g,g∈fs.map (·.1)->g∈(cM f v fs).map (·.1)
 | []=>⟨by simp [cM],fun g h=>by simp at h⟩
 | (k,x):: r=>by
   obtain ⟨i1,i2⟩:=gz f v r
   rw [show cM f v ((k,x):: r)=(if k=f then (k,v):: r else (k,x):: cM f v r) from rfl]
   by_cases hk:k=f
   ·rw [if_pos hk]
    subst hk
    exact ⟨by simp,fun g h=>by simpa using h⟩
   ·rw [if_neg hk]
    refine ⟨?_,fun g h=>?_⟩
    ·rw [List.map_cons]
     exact List.mem_cons_of_mem _ i1
    ·rw [List.map_cons] at h ⊢
     rcases List.mem_cons.mp h with e | e
     ·exact List.mem_cons.mpr (.inl e)
     ·exact List.mem_cons_of_mem _ (i2 g e)
theorem gH (f:Str)(v:V):∀ fs:List (Str × V),(cM f v fs).length≤fs.length + 1
 | []=>by simp [cM]
 | (k,x):: r=>by
   have ih:=gH f v r
   rw [show cM f v ((k,x):: r)=(if k=f then (k,v):: r else (k,x):: cM f v r) from rfl]
   by_cases hk:k=f
   ·rw [if_pos hk,List.length_cons,List.length_cons]; omega
   ·rw [if_neg hk,List.length_cons,List.length_cons]; omega
theorem dM.some_of {v:V}{o:Option Value}(r:dM (some v) o):∃ u,o=some u∧aC v u:=by
 cases o with
 | none=>exact (show False from r).elim
 | some u=>exact ⟨u,rfl,r⟩
theorem dM.none_of {o:Option Value}(r:dM none o):o=none:=by
 cases o with
 | none=>rfl
 | some u=>exact (show False from r).elim
theorem sf {v:V}{u:Value}(r:aC v u):PySem.W.handedIn u=true:=by
 cases v with
 | non=>cases (show u=Value.none from r); rfl
 | bl b=>cases (show u=Value.bool b from r); rfl
 | int i=>obtain ⟨t,e⟩:=(show ∃ t,u=Value.int i t from r); cases e; rfl
 | str x=>obtain ⟨t,e⟩:=(show ∃ t,u=Value.str x t from r); cases e; rfl
 | byt b=>obtain ⟨t,e⟩:=(show ∃ t,u=Value.bytes b t from r); cases e; rfl
 | flt b=>obtain ⟨t,e⟩:=(show ∃ t,u=Value.float b t from r); cases e; rfl
 | ref a=>cases (show u=Value.ref a from r); rfl
 | ty n=>cases (show u=Value.type n from r); rfl
section
variable {P:Program}{w:World}{H H':Hp}{h h':Heap}{a C dx:Addr}{fs fs':List (Str × V)}
theorem cm (hok:dY P w H h)(e:H a=some (.ins C dx fs)):∃ mA,ObjM h a dx C mA∧(∀ f,dM (fs.lookup f) (mA f))∧PySem.Within mA (fs.map (·.1))∧fs.length≤1000∧H dx=some (.own a):=by
 obtain ⟨d,z,ne,ob,mA,n,r,q⟩:=(show a8 P w H h a (.ins C dx fs) from hok a _ e)
 exact ⟨mA,⟨ob,n,ne⟩,r,q,z,d⟩
end
structure Cls (K:PySem.W.Frag)(C:Addr):Prop where
 pg:PySem.W.plainGet K C Str.empty=true
 hd:PySem.W.hasDictIn K C=true
 po:PySem.W.plainOver K C=true
 sa:PySem.W.findIn K (.ref C) "__setattr__"=some (some (.builtin "object.__setattr__"))
theorem Cls.get {K:PySem.W.Frag}{C:Addr}(c:Cls K C)(f:Str):PySem.W.plainGet K C f=true:=c.pg
def cR (K:PySem.W.Frag)(C:Addr)(f:Str):Prop:=PySem.W.findIn K (.ref C) f=some none
theorem cR.taker {K:PySem.W.Frag}{C:Addr}{f:Str}(n:cR K C f):PySem.W.takerIn K C f=some none:=by
 unfold PySem.W.takerIn
 rw [show PySem.W.findIn K (.ref C) f=some none from n]
 rfl
structure Meth (K:PySem.W.Frag)(C:Addr)(m:Str)(f:Addr):Prop where
 at_:PySem.W.findIn K (.ref C) m=some (some (.ref f))
 fn:PySem.W.isFn K (.ref f)=true
 kp:PySem.W.keepIn K (.ref f)=true
section
variable {X:Cx}{pins:List (Addr × Obj)}{σ:St}{H:Hp}{s:Shared}{a C dx:Addr}{fs:List (Str × V)}{f:Str}{v:V}{A:Around}{E:Value->Shared->Prop}
theorem pE {b:Bool}{Q:Value->Shared->Prop}(I:Inv X pins σ H s)(e:H a=some (.ins C dx fs))(c:Cls X.K C)(n:cR X.K C f)(l:fs.lookup f=some v)
 (h:∀ u s',Inv X pins σ H s'->aC v u->Q u s'):wpAny (model X.prog X.w) A (getAttr (.ref a) f b) Q E s:=by
 obtain ⟨mA,O,r,_,_,_⟩:=cm I.hok e
 obtain ⟨u,hu,ru⟩:=dM.some_of (v:=v) (o:=mA f) (by rw [← l]; exact r f)
 exact wJ I.kIn O (c.get f) c.hd n hu (sf ru) (h u _ (I.tok _) ru)
theorem je {m:Str}{g:Addr}{pl:Sem Bool}{Q:Value × List Value->Shared->Prop}(I:Inv X pins σ H s)(e:H a=some (.ins C dx fs))(c:Cls X.K C)(k:Meth X.K C m g)(l:fs.lookup m=none)
 (h:Q (.ref g,[.ref a]) s):wpAny (model X.prog X.w) A (getMethod (.ref a) m pl) Q E s:=by
 obtain ⟨mA,O,r,_,_,_⟩:=cm I.hok e
 have hn:mA m=none:=dM.none_of (by rw [← l]; exact r m)
 exact uf I.kIn O (c.get m) k.at_ k.fn hn h
theorem pS {y:V}{u:Value}{Q:Unit->Shared->Prop}(I:Inv X pins σ H s)(e:H a=some (.ins C dx fs))(c:Cls X.K C)(n:cR X.K C f)(hl:fs.length < 1000)(ry:aC y u)
 (h:∀ s',Inv X pins σ (upd H a (.ins C dx (cM f y fs))) s'->Q () s'):wpAny (model X.prog X.w) A (setAttr (.ref a) f u) Q E s:=by
 obtain ⟨mA,O,r,wi,_,ho⟩:=cm I.hok e
 have hz:(fs.map (·.1)).length≤sizeLine:=by rw [List.length_map,sizeLine_eq]; omega
 refine wL I.kIn O c.sa c.po n.taker c.hd wi hz fun h' O' sb=>h _ ?_
 have hd:∃ o,h'.get? dx=some o:=let ⟨o,_,_,e',_⟩:=O'.ns; ⟨o,e'⟩
 refine I.write (x:=a) (e:=dx) (by rw [e]; exact True.intro) (.inr ho) (fun b q hb z=>(sb.2 b hb).trans z) hd ?_
 refine ⟨by rw [ar O.ne]; exact ho,?_,O.ne,O'.obj,_,O'.ns,fun g=>?_,fun g hg=>?_⟩
 ·have:=gH f y fs; omega
 ·show dM ((cM f y fs).lookup g) (if g=f then some u else mA g)
  rw [gN]
  by_cases q:g=f
  ·rw [if_pos q,if_pos q]; exact ry
  ·rw [if_neg q,if_neg q]; exact r g
 ·by_cases q:g=f
  ·rw [q]; exact (gz f y fs).1
  ·refine (gz f y fs).2 g (wi g fun z=>hg ?_)
   show (if g=f then some u else mA g)=none
   rw [if_neg q]; exact z
theorem Inv.made (I:Inv X pins σ H s):Inv X pins σ (upd (upd H s.heap.objs.size (.own (s.heap.objs.size + 1))) (s.heap.objs.size + 1) (.ins C s.heap.objs.size []))
 { s with heap:=(s.heap.push PySem.W.emptyDict).push (PySem.W.instObj C s.heap.objs.size) }:=by
 have e1:(s.heap.push PySem.W.emptyDict).get? s.heap.objs.size=some PySem.W.emptyDict:=Heap.get?_push_size s.heap rfl
 have e2:((s.heap.push PySem.W.emptyDict).push (PySem.W.instObj C s.heap.objs.size)).get? (s.heap.objs.size + 1)=some (PySem.W.instObj C s.heap.objs.size):=by
  have:=Heap.get?_push_size (s.heap.push PySem.W.emptyDict) (o:=PySem.W.instObj C s.heap.objs.size) rfl
  rwa [Heap.size_push] at this
 have e3:(s.heap.push PySem.W.emptyDict).Ns s.heap.objs.size (fun _=>none):=⟨PySem.W.emptyDict,#[],_,e1,rfl,(fun e he=>absurd he (by simp)),fun _=>rfl⟩
 have I1:=I.laid (a:=s.heap.objs.size) (o:=.own (s.heap.objs.size + 1)) (h':=s.heap.push PySem.W.emptyDict) (t':=s.toks) (fun b u q=>Heap.get?_push_of_some _ q) (Nat.le_refl _) ⟨_,e1⟩
 refine I1.laid (a:=s.heap.objs.size + 1) (o:=.ins C s.heap.objs.size []) (t':=s.toks) (fun b u q=>Heap.get?_push_of_some _ q) (Nat.le_of_eq (Heap.size_push _ _)) ?_
 have ne:s.heap.objs.size≠s.heap.objs.size + 1:=Nat.ne_of_lt (Nat.lt_succ_self _)
 refine ⟨by rw [ar ne,ag],Nat.zero_le _,ne,e2,fun _=>none,(Heap.Ns1.of_empty e3).at fun o q=>Heap.get?_push_of_some _ q,fun _=>True.intro,fun y hy=>absurd rfl hy⟩
theorem wD {prog:Program}{w:World}{env:Env}{e:Expr}{f:Str}{pos:Pos}{s:Shared}{Q:Value->Shared->Prop}(hb:attributeBase e f env (eval e env)=eval e env)
 (h:wpAny (model prog w) A (eval e env) (fun o s₁=>wpAny (model prog w) A (getAttr o f true) Q E s₁) E s):wpAny (model prog w) A (eval (.Attribute e f pos) env) Q E s :=
 Attribute_any_ h (by rw [arm_eval_Attribute,hb])
end
def A6 (K:PySem.W.Frag)(ta:TE)(f:Str):TE:=fun σ H Q=>ta σ H fun x H1=>∃ a C dx fs v,x = .ref a∧H1 a=some (.ins C dx fs)∧Cls K C∧cR K C f∧fs.lookup f=some v∧Q v H1
def Bf (K:PySem.W.Frag)(ta tv:TE)(f:Str):TS:=fun D σ H=>tv σ H fun y H1=>ta σ H1 fun x H2=>∃ a C dx fs,x = .ref a∧H2 a=some (.ins C dx fs)∧Cls K C∧cR K C f∧fs.length < 1000 ∧
 D.nx σ (upd H2 a (.ins C dx (cM f y fs)))
section
variable {X:Cx}{o e value:Expr}{f:Str}{pos pos' tpos:Pos}{ta tv:TE}
theorem ck (he:PE X e ta)(hb:attributeBase e f X.env (eval e X.env)=eval e X.env):PE X (.Attribute e f pos) (A6 X.K ta f):=by
 intro pins s σ H Q I h
 refine wD hb (br (he pins s σ H _ I h) fun u s1 ⟨x,H1,I1,rx,a,C,dx,fs,v,ex,ea,c,n,l,q⟩=>?_)
 subst ex
 obtain rfl:u=Value.ref a:=rx
 exact pE I1 ea c n l fun u' s2 I2 ru=>⟨v,H1,I2,ru,q⟩
theorem oj (ha:PE X o ta)(hv:PE X value tv)(hs:swapsWith value (some (.Attribute o f pos')) pos.line X.env=pure false):PS X (.Assign [.Attribute o f pos'] value pos) (Bf X.K ta tv f):=by
 intro pins s σ H D I h
 refine plainObj_wpAny_Assign_Attribute (br (hv pins s σ H _ I h) fun u s1 ⟨y,H1,I1,ry,q⟩=>br (ha pins s1 σ H1 _ I1 q) fun ov s2 ⟨x,H2,I2,rx,a,C,dx,fs,ex,ea,c,n,l,q2⟩=>?_) hs
 subst ex
 obtain rfl:ov=Value.ref a:=rx
 exact pS I2 ea c n l ry fun s3 I3=>⟨σ,_,I3,q2⟩
end
section
variable {X:Cx}{pins:List (Addr × Obj)}{σ:St}{H:Hp}{s:Shared}{A:Around}{E:Value->Shared->Prop}{Q:Value->Shared->Prop}{c:Value}{b:Bool}
inductive TyOf (K:PySem.W.Frag)(H:Hp):V->Value->Prop where
 | non:TyOf K H .non (.type "NoneType")
 | bl (x:Bool):TyOf K H (.bl x) (.type "bool")
 | int (i:Int):TyOf K H (.int i) (.type "int")
 | str (x:Str):TyOf K H (.str x) (.type "str")
 | flt (x:UInt64):TyOf K H (.flt x) (.type "float")
 | lst {a:Addr}{xs:List V}(e:H a=some (.lst xs)):TyOf K H (.ref a) (.type "list")
 | frz {a:Addr}{o:Obj}{xs:List V}(e:H a=some (.frz o (.lst xs))):TyOf K H (.ref a) (.type "list")
 | tup {a:Addr}{xs:List V}(e:H a=some (.tup xs)):TyOf K H (.ref a) (.type "tuple")
 | dK {a:Addr}{kvs:List (Key × V)}(e:H a=some (.dK kvs)):TyOf K H (.ref a) (.type "dict")
 | dT {a:Addr}{kvs:List (List Key × V)}(e:H a=some (.dT kvs)):TyOf K H (.ref a) (.type "dict")
 | ins {a C dx:Addr}{fs:List (Str × V)}(e:H a=some (.ins C dx fs))(cl:Cls K C)(ha:PySem.W.findIn K (.ref C) "__class__"=some (some (.builtin "object.__class__")))
  (hn:PySem.W.specialIn K (.builtin "object.__class__") "__get__"=some (some (.builtin "getset_descriptor.__get__")))(htk:PySem.W.takesIn K (.builtin "object.__class__")=some true)
  (hm:PySem.W.mroIn K C (.type "object")=some true):TyOf K H (.ref a) (.ref C)
theorem rY {x:V}{u t:Value}(I:Inv X pins σ H s)(rx:aC x u)(ty:TyOf X.K H x t)(e:PySem.W.kitOne X.K t c=some b)(h:∀ tk,Q (.bool b) { s with toks:=tk }):
 wpAny (model X.prog X.w) A (call (.builtin "isinstance") [u,c]) Q E s:=by
 cases ty with
 | non=>cases (show u=Value.none from rx); exact PySem.W.kia_one PySem.W.kitx_none I.kIn True.intro e (fun z=>nomatch z) h
 | bl y=>cases (show u=Value.bool y from rx); exact PySem.W.kia_one PySem.W.kitx_bool I.kIn True.intro e (fun z=>nomatch z) h
 | int i=>obtain ⟨t,q⟩:=(show ∃ t,u=Value.int i t from rx); cases q; exact PySem.W.kia_one PySem.W.kitx_int I.kIn True.intro e (fun z=>nomatch z) h
 | str y=>obtain ⟨t,q⟩:=(show ∃ t,u=Value.str y t from rx); cases q; exact PySem.W.kia_one PySem.W.kitx_str I.kIn True.intro e (fun z=>nomatch z) h
 | flt y=>obtain ⟨t,q⟩:=(show ∃ t,u=Value.float y t from rx); cases q; exact PySem.W.kia_one PySem.W.kitx_float I.kIn True.intro e (fun z=>nomatch z) h
 | @lst a xs ea =>
   cases (show u=Value.ref a from rx)
   obtain ⟨_,_,n,_,h1⟩:=(show a8 X.prog X.w H s.heap a (.lst xs) from I.hok a _ ea)
   exact PySem.W.kia_one PySem.W.kitx_list I.kIn ⟨_,h1,rfl⟩ e (fun z=>nomatch z) h
 | @frz a ob xs ea =>
   cases (show u=Value.ref a from rx)
   obtain ⟨_,_,_,n,_,h1⟩:=(show a8 X.prog X.w H s.heap a (.frz ob (.lst xs)) from I.hok a _ ea)
   exact PySem.W.kia_one PySem.W.kitx_list I.kIn ⟨_,h1,rfl⟩ e (fun z=>nomatch z) h
 | @tup a xs ea =>
   cases (show u=Value.ref a from rx)
   obtain ⟨_,_,_,p⟩:=(show a8 X.prog X.w H s.heap a (.tup xs) from I.hok a _ ea)
   obtain ⟨o,h1,h2,_⟩:=p
   exact PySem.W.kia_one PySem.W.kitx_tuple I.kIn ⟨o,h1,h2⟩ e (fun z=>nomatch z) h
 | @dK a kvs ea =>
   cases (show u=Value.ref a from rx)
   obtain ⟨_,_,vs,_,p⟩:=(show a8 X.prog X.w H s.heap a (.dK kvs) from I.hok a _ ea)
   obtain ⟨o,es,ep,h1,h2,_⟩:=p
   exact PySem.W.kia_one PySem.W.kitx_dict I.kIn ⟨o,h1,h2.1⟩ e (fun z=>nomatch z) h
 | @dT a kvs ea =>
   cases (show u=Value.ref a from rx)
   obtain ⟨_,_,xs,_,o,es,ep,h1,h2,_⟩:=(show a8 X.prog X.w H s.heap a (.dT kvs) from I.hok a _ ea)
   exact PySem.W.kia_one PySem.W.kitx_dict I.kIn ⟨o,h1,h2.1⟩ e (fun z=>nomatch z) h
 | @ins a C dx fs ea cl ha hn htk hm =>
   cases (show u=Value.ref a from rx)
   obtain ⟨mA,O,_⟩:=cm I.hok ea
   obtain ⟨od,J,_⟩:=O.look
   exact PySem.W.kia_one (PySem.W.kitx_own (cl.get _) cl.hd ha hn htk hm) I.kIn J e (fun z=>nomatch z) h
end
structure Room (k:Nat)(A:Around):Prop where
 hd:A.handled=none
 dp:A.depth + 3 * k + 5 < recursionLimit
 un:A.units + 16 * k + 200 < cLine
 gd:A.guards=some []
theorem Room.mono {j k:Nat}{A:Around}(r:Room k A)(h:j≤k):Room j A:=⟨r.hd,by have:=r.dp; omega,by have:=r.un; omega,r.gd⟩
theorem Room.deeper {k:Nat}{A:Around}(r:Room (k + 1) A)(env:Env):Room k (A.deeper env):=
 ⟨r.hd,by have:=r.dp; show A.depth + 1 + 3 * k + 5 < _; omega,by have:=r.un; show A.units + 3 + 16 * k + 200 < _; omega,r.gd⟩
theorem Room.in1 {k:Nat}{A:Around}(r:Room (k + 1) A):Room k A.in1 :=
 ⟨r.hd,by have:=r.dp; show A.depth + 3 * k + 5 < _; omega,by have:=r.un; show A.units + 1 + 16 * k + 200 < _; omega,r.gd⟩
theorem oA {A:Around}{C:Addr}{us:List Value}{kw:List (Str × Value)}:(A.under (.builtin "type.__call__" ⟨.ref C :: us,kw⟩)).depth=A.depth + 1:=by
 first | rfl | simp [Around.under,Code.weight,Code.isCreation,Code.isGuard,Code.isCaller,Code.frames,Code.isFrame,guardIds]
theorem md {A:Around}{C:Addr}{us:List Value}{kw:List (Str × Value)}:(A.under (.builtin "type.__call__" ⟨.ref C :: us,kw⟩)).guards=A.guards:=by
 first | rfl | simp [Around.under,Code.guards,Code.isGuard,guardIds,pushGuards]
theorem pG {A:Around}{C:Addr}{us:List Value}{kw:List (Str × Value)}:(A.under (.builtin "type.__call__" ⟨.ref C :: us,kw⟩)).units=A.units + 1:=by
 first | rfl | simp [Around.under,Code.cUnits,Code.frames,Code.isFrame]
theorem Room.make {k:Nat}{A:Around}(r:Room (k + 1) A)(C:Addr)(us:List Value)(kw:List (Str × Value)):Room k (A.under (.builtin "type.__call__" ⟨.ref C :: us,kw⟩)):=
 ⟨r.hd,by have:=r.dp; rw [oA]; omega,by have:=r.un; rw [pG]; omega,by rw [md]; exact r.gd⟩
theorem Room.depth {k:Nat}{A:Around}(r:Room k A):A.depth < recursionLimit:=by have:=r.dp; omega
theorem Room.units {k:Nat}{A:Around}(r:Room k A):A.units + 64 < cLine:=by have:=r.un; omega
theorem Room.units0 {k:Nat}{A:Around}(r:Room k A):A.units < cLine:=by have:=r.un; omega
def tNil:TA:=fun _ H Q=>Q [] H
def cG (ta:TE)(tr:TA):TA:=fun σ H Q=>ta σ H fun x H1=>tr σ H1 fun xs H2=>Q (x :: xs) H2
section
variable {X:Cx}{e:Expr}{es:List Expr}{te:TE}{t:TA}{pos:Pos}
theorem af:PA X [] tNil:=fun _ _ _ _ H Q I h=>Calls.spliced_nil ⟨[],H,I,.nil,h⟩
theorem b8 (ha:PE X e te)(hr:PA X es t)(hs:starEach (e :: es) X.env=(false,eval e X.env):: starEach es X.env:=by rfl):PA X (e :: es) (cG te t):=by
 intro pos pins s σ H Q I h
 rw [hs]
 show wpAny _ _ (spliced ((false,eval e X.env):: backTo pos (starEach es X.env))) _ _ s
 refine Calls.spliced_cons (br (ha pins s σ H _ I h) fun u s1 ⟨x,H1,I1,r1,q1⟩=>?_)
 exact br (hr pos pins s1 σ H1 _ I1 q1) fun us s2 ⟨xs,H2,I2,r2,q2⟩=>⟨x :: xs,H2,I2,.cons r1 r2,q2⟩
def Ai (t:TA):TE:=fun σ H Q=>t σ H fun xs H1=>xs.length≤sizeLine∧∀ p,H1 p=none->Q (.ref p) (upd H1 p (.tup xs))
def xw (t:TA):TE:=fun σ H Q=>t σ H fun xs H1=>xs.length≤sizeLine∧∀ p,H1 p=none->Q (.ref p) (upd H1 p (.lst xs))
theorem bK {x1}(h:PA X es t):PE X (.Tuple es x1 pos) (Ai t):=by
 intro pins s σ H Q I hq
 refine wpAny_Tuple_spliced (br (h pos pins s σ H _ I hq) fun us s1 ⟨xs,H1,I1,r,z,q⟩=>⟨by rw [← r.length]; exact z,?_⟩)
 have hf:H1 s1.heap.objs.size=none:=I1.hok.fresh (Nat.le_refl _)
 refine ⟨.ref s1.heap.objs.size,upd H1 s1.heap.objs.size (.tup xs),I1.laid (t':=s1.toks) (fun b u e=>Heap.get?_push_of_some _ e) (Nat.le_refl _) ?_,rfl,q _ hf⟩
 exact ⟨z,us,r,⟨_,Heap.get?_push_size _ rfl,rfl,_,rfl⟩⟩
theorem bf (h:PA X es t):PE X (.List es pos) (xw t):=by
 intro pins s σ H Q I hq
 refine wpAny_List_spliced (br (h pos pins s σ H _ I hq) fun us s1 ⟨xs,H1,I1,r,z,q⟩=>⟨by rw [← r.length]; exact z,?_⟩)
 have hf:H1 s1.heap.objs.size=none:=I1.hok.fresh (Nat.le_refl _)
 refine ⟨.ref s1.heap.objs.size,upd H1 s1.heap.objs.size (.lst xs),I1.laid (t':=s1.toks) (fun b u e=>Heap.get?_push_of_some _ e) (Nat.le_refl _) ?_,rfl,q _ hf⟩
 exact ⟨z,us,0,r,Heap.get?_push_size _ rfl⟩
end
abbrev Sp:=List V->Hp->VK->XK->Prop
abbrev CXT:=List Env->Hp->Shared->XK->Value->Shared->Prop
structure Env0 (P:Program)(w:World)(K:PySem.W.Frag)(mg:Str->Option Value)(base:Heap)(A:Around)(outer:List Env)(s:Shared)(H:Hp):Prop where
 frames:A.frames=some outer
 mod:Mod K mg base
 bs:∀ b o,base.get? b=some o->s.heap.get? b=some o∧H b=none
 bsz:base.objs.size≤s.heap.objs.size
 funs:s.heap.FunFrames base outer
 frf:∀ b∈eQ outer,H b=none
 hok:dY P w H s.heap
 bare:AllBare s.gens
def CE (outer:List Env)(P:Program)(w:World)(H:Hp)(s:Shared)(Q:VK)(u:Value)(s':Shared):Prop :=
 ∃ v H',s'.os=s.os∧AllBare s'.gens∧Un (eQ outer) [] H H' s.heap s'.heap∧dY P w H' s'.heap∧aC v u∧Q v H'
def CR (CX:CXT)(outer:List Env)(P:Program)(w:World)(H:Hp)(s:Shared)(Q:VK)(E:XK)(r:Result)(s':Shared):Prop :=
 match r with
 | .ok (.ret u)=>CE outer P w H s Q u s'
 | .ok _=>False
 | .error e=>CX outer H s E e s'
structure FnOk (P:Program)(w:World)(K:PySem.W.Frag)(mg:Str->Option Value)(base:Heap)(CX:CXT)(k:Nat)(f:Addr)(fd:FuncData)(ps:List Str)(sp:Sp):Prop where
 len:∀ vs H Q E,sp vs H Q E->vs.length=ps.length
 run:∀ (A:Around)(outer:List Env)(s:Shared)(H:Hp)(args:Args)(us:List Value)(vs:List V)(Q:VK)(E:XK),Room k A->Env0 P w K mg base A outer s H->BindsTo s fd args (ps.zip us)->aI vs us->sp vs H Q E →
  codeAny (model P w) A (.call (.ref f) args) (CR CX outer P w H s Q E) s
theorem Env0.make {P:Program}{w:World}{K:PySem.W.Frag}{mg:Str->Option Value}{base:Heap}{A:Around}{outer:List Env}{s:Shared}{H:Hp}(e:Env0 P w K mg base A outer s H)(C:Addr)(us:List Value)(kw:List (Str × Value)):
 Env0 P w K mg base (A.under (.builtin "type.__call__" ⟨.ref C :: us,kw⟩)) outer s H:=⟨by first | exact e.frames | (simpa [Around.under,Code.envs,Code.isFrame,pushEnvs] using e.frames),e.mod,e.bs,e.bsz,e.funs,e.frf,e.hok,e.bare⟩
theorem Env0.in1 {P:Program}{w:World}{K:PySem.W.Frag}{mg:Str->Option Value}{base:Heap}{A:Around}{outer:List Env}{s:Shared}{H:Hp}(e:Env0 P w K mg base A outer s H):
 Env0 P w K mg base A.in1 outer s H:=⟨e.frames,e.mod,e.bs,e.bsz,e.funs,e.frf,e.hok,e.bare⟩
section
variable {X:Cx}{pins:List (Addr × Obj)}{σ:St}{H:Hp}{s s':Shared}
theorem Inv.env0 (I:Inv X pins σ H s):Env0 X.prog X.w X.K X.mg X.base X.A X.stack s H :=
 ⟨I.ok.frames,I.ok.mod,I.bs,Nat.le_trans I.ok.bsz I.sz,I.stack,I.stkFree,I.hok,I.bare⟩
theorem Inv.after {Q:VK}{u:Value}(I:Inv X pins σ H s)(h:CE X.stack X.prog X.w H s Q u s'):EP X pins σ Q u s':=by
 obtain ⟨v,H',os,bare,un,hok,r,q⟩:=h
 obtain ⟨hh,g,d,t,os'⟩:=s'
 obtain rfl:os'=s.os:=os
 exact ⟨v,H',I.call (h':=hh) (g':=g) (d':=d) (t':=t) (ch:=[]) un hok bare (fun b z=>absurd z (by simp)),r,q⟩
end
def uy (sp:Sp)(dvs:List V)(E:XK)(t:TA):TE:=fun σ H Q=>t σ H fun vs H1=>sp (vs++dvs) H1 Q E
def xS (C:Addr)(m:Str)(sp:Sp)(dvs:List V)(E:XK)(ta:TE)(t:TA):TE:=fun σ H Q=>ta σ H fun x H1=>∃ a dx fs,x = .ref a∧H1 a=some (.ins C dx fs)∧fs.lookup m=none ∧
 t σ H1 fun vs H2=>sp (x :: (vs++dvs)) H2 Q E
def zH (C:Addr)(sp:Sp)(dvs:List V)(E:XK)(t:TA):TE:=fun σ H Q=>t σ H fun vs H1=>∀ x dx,H1 x=none->H1 dx=none->dx≠x →
 sp (.ref x :: (vs++dvs)) (upd (upd H1 dx (.own x)) x (.ins C dx [])) (fun v H2=>v = .non∧Q (.ref x) H2) E
def ay (K:PySem.W.Frag)(fd:FuncData)(ps:List Str)(ds:List Value):Prop :=
 ∀ (s:Shared)(us:List Value),K.In s.heap->(us++ds).length=ps.length->BindsTo s fd ⟨us,[]⟩ (ps.zip (us++ds))
theorem ay.all {K:PySem.W.Frag}{fd:FuncData}{ps:List Str}(h:∀ us:List Value,us.length=ps.length->bindArgs fd ⟨us,[]⟩=pure (ps.zip us)):ay K fd ps []:=fun s us _ hl=>by
 rw [List.append_nil] at hl ⊢
 exact .of_eq (h us hl)
def bQ (CX:CXT)(X:Cx)(E:XK):Prop:=∀ (pins:List (Addr × Obj))(σ:St)(H:Hp)(s:Shared)(e:Value)(s':Shared),Inv X pins σ H s->CX X.stack H s E e s'->X.xe e s'
section
variable {X:Cx}{CX:CXT}{k:Nat}{f C:Addr}{fd:FuncData}{ps:List Str}{sp:Sp}{dvs:List V}{ds:List Value}{E:XK}{x m:Str}{p pos apos:Pos}{e o:Expr}{es:List Expr}{ta:TE}{t:TA}
theorem iz {pins:List (Addr × Obj)}{σ:St}{H:Hp}{s:Shared}{Q:VK}{us:List Value}{vs:List V}(F:FnOk X.prog X.w X.K X.mg X.base CX k f fd ps sp)(hr:Room k X.A)(hb:ay X.K fd ps ds)(hd:aI dvs ds)(hx:bQ CX X E)
 (I:Inv X pins σ H s)(r:aI vs us)(h:sp (vs++dvs) H Q E):wpAny (model X.prog X.w) X.A (call (.ref f) us) (EP X pins σ Q) X.xe s:=by
 have r2:aI (vs++dvs) (us++ds):=r.append hd
 have hl:(us++ds).length=ps.length:=by rw [← r2.length]; exact F.len _ _ _ _ h
 refine wpAny_call (codeAny_mono (F.run X.A X.stack s H ⟨us,[]⟩ (us++ds) (vs++dvs) Q E hr I.env0 (hb s us I.kIn hl) r2 h) fun r s' hq=>?_)
 cases r with
 | error e=>exact hx pins σ H s e s' I hq
 | ok fl =>
   cases fl with
   | ret u=>exact I.after hq
   | next=>exact False.elim hq
   | brk=>exact False.elim hq
   | cont=>exact False.elim hq
theorem av (F:FnOk X.prog X.w X.K X.mg X.base CX k f fd ps sp)(hr:Room k X.A)(hg:Gl X x)(hm:X.mg x=some (.ref f))(hk:PySem.W.keepIn X.K (.ref f)=true)(hb:ay X.K fd ps ds)(hd:aI dvs ds)(hx:bQ CX X E)
 (ha:PA X (e :: es) t)(hdb:(x == ("__debug__":Str))=false:=by decide)(he:starEach (e :: es) X.env=(false,eval e X.env):: starEach es X.env:=by rfl)(hpl:(backTo pos (starEach es X.env)).any (·.1)=false:=by rfl):
 PE X (.Call (.Name x p) (e :: es) [] pos) (uy sp dvs E t):=by
 intro pins s σ H Q I h
 refine wpAny_Call_Name_kw (d9 I hg hm ?_ hdb)
 refine PySem.W.callWith_K (h₀:=X.base) I.ok.mod.kin hk (br (ha pos pins s σ H _ I h) fun us s1 ⟨vs,H1,I1,r,q⟩=>⟨I1.kIn,?_⟩) he hpl
 exact iz F hr hb hd hx I1 r q
theorem uo (F:FnOk X.prog X.w X.K X.mg X.base CX k f fd ps sp)(hr:Room k X.A)(hg:Gl X x)(hm:X.mg x=some (.ref f))(hk:PySem.W.keepIn X.K (.ref f)=true)(hb:ay X.K fd ps ds)(hd:aI dvs ds)(hx:bQ CX X E)
 (hdb:(x == ("__debug__":Str))=false:=by decide):PE X (.Call (.Name x p) [] [] pos) (uy sp dvs E tNil):=by
 intro pins s σ H Q I h
 refine wpAny_Call_Name_kw (d9 I hg hm ?_ hdb)
 exact PySem.W.callWith_K0 I.kIn hk (iz (us:=[]) F hr hb hd hx I .nil h)
theorem lH {pl:Sem Bool}(he:PE X o ta)(c:Cls X.K C)(hm:Meth X.K C m f)(F:FnOk X.prog X.w X.K X.mg X.base CX k f fd ps sp)(hr:Room k X.A)(hb:ay X.K fd ps ds)(hd:aI dvs ds)(hx:bQ CX X E)(ha:PA X (e :: es) t)
 (hst:starEach (e :: es) X.env=(false,eval e X.env):: starEach es X.env:=by rfl)(hpl:(backTo pos (starEach es X.env)).any (·.1)=false:=by rfl)
 (ht:eval (.Call (.Attribute o m apos) (e :: es) [] pos) X.env=(do
  let ov ← eval o X.env
  standAt apos.atName
  let (f,first) ← holding [ov] (getMethod ov m pl)
  callWith pos f first (backTo pos (starEach (e :: es) X.env)) (backToKw pos (keywordEach [] X.env))):=by rfl):
 PE X (.Call (.Attribute o m apos) (e :: es) [] pos) (xS C m sp dvs E ta t):=by
 intro pins s σ H Q I h
 refine PySem.W.methodCall_KW (pl:=pl) (br (he pins s σ H _ I h) fun u s1 ⟨x,H1,I1,rx,a,dx,fs,ex,ea,l,q⟩=>?_) ht
 subst ex
 obtain rfl:u=Value.ref a:=rx
 refine je I1 ea c hm l ?_
 refine PySem.W.callWith_K (first:=[.ref a]) (h₀:=X.base) I.ok.mod.kin hm.kp (br (ha pos pins s1 σ H1 _ I1 q) fun us s2 ⟨vs,H2,I2,r,q2⟩=>⟨I2.kIn,?_⟩) hst hpl
 exact iz (us:=.ref a :: us) (vs:=.ref a :: vs) F hr hb hd hx I2 (.cons rfl r) q2
theorem vO {pl:Sem Bool}(he:PE X o ta)(c:Cls X.K C)(hm:Meth X.K C m f)(F:FnOk X.prog X.w X.K X.mg X.base CX k f fd ps sp)(hr:Room k X.A)(hb:ay X.K fd ps ds)(hd:aI dvs ds)(hx:bQ CX X E)
 (ht:eval (.Call (.Attribute o m apos) [] [] pos) X.env=(do
  let ov ← eval o X.env
  standAt apos.atName
  let (f,first) ← holding [ov] (getMethod ov m pl)
  callWith pos f first (backTo pos (starEach [] X.env)) (backToKw pos (keywordEach [] X.env))):=by rfl):
 PE X (.Call (.Attribute o m apos) [] [] pos) (xS C m sp dvs E ta tNil):=by
 intro pins s σ H Q I h
 refine PySem.W.methodCall_KW (pl:=pl) (br (he pins s σ H _ I h) fun u s1 ⟨x,H1,I1,rx,a,dx,fs,ex,ea,l,q⟩=>?_) ht
 subst ex
 obtain rfl:u=Value.ref a:=rx
 refine je I1 ea c hm l ?_
 exact PySem.W.callWith_K0 (first:=[.ref a]) I1.kIn hm.kp (iz (us:=[.ref a]) (vs:=[.ref a]) F hr hb hd hx I1 (.cons rfl .nil) q)
structure Mk (K:PySem.W.Frag)(C f:Addr):Prop where
 makes:PySem.W.makesIn K C=true
 init:PySem.W.findIn K (.ref C) "__init__"=some (some (.ref f))
 fn:PySem.W.isFn K (.ref f)=true
 kp:PySem.W.keepIn K (.ref C)=true
theorem ve {pins:List (Addr × Obj)}{σ:St}{H:Hp}{s:Shared}{Q:VK}{us:List Value}{vs:List V}(M:Mk X.K C f)(F:FnOk X.prog X.w X.K X.mg X.base CX k f fd ps sp)(hr:Room (k + 1) X.A)(hb:ay X.K fd ps ds)(hd:aI dvs ds)
 (hx:bQ CX X E)(I:Inv X pins σ H s)(r:aI vs us)
 (h:∀ x dx,H x=none->H dx=none->dx≠x->sp (.ref x :: (vs++dvs)) (upd (upd H dx (.own x)) x (.ins C dx [])) (fun v H2=>v = .non∧Q (.ref x) H2) E):
 wpAny (model X.prog X.w) X.A (call (.ref C) us) (EP X pins σ Q) X.xe s:=by
 have hq:=h (s.heap.objs.size + 1) s.heap.objs.size (I.hok.fresh (Nat.le_succ _)) (I.hok.fresh (Nat.le_refl _)) (Nat.ne_of_lt (Nat.lt_succ_self _))
 have I2:=Inv.made (C:=C) I
 have r2:aI (V.ref (s.heap.objs.size + 1):: (vs++dvs)) (Value.ref (s.heap.objs.size + 1):: (us++ds)):=.cons rfl (r.append hd)
 have hl:(Value.ref (s.heap.objs.size + 1):: us++ds).length=ps.length:=by
  have e:=r2.length
  rw [F.len _ _ _ _ hq] at e
  exact e.symm
 refine wpAny_call (tX (f:=f) I.kIn M.makes M.init (beq_iff_eq.mp M.fn) (codeAny_mono (F.run _ X.stack _ _ ⟨Value.ref (s.heap.objs.size + 1):: us,[]⟩ (Value.ref (s.heap.objs.size + 1):: (us++ds)) _ _ E (hr.make C us [])
  (I2.env0.make C us []) (hb _ (Value.ref (s.heap.objs.size + 1):: us) I2.kIn hl) r2 hq) fun r s' hq'=>?_))
 cases r with
 | error e=>exact hx pins σ _ _ e s' I2 hq'
 | ok fl =>
   cases fl with
   | ret u =>
     obtain ⟨v,H',I3,rv,ev,q3⟩:=I2.after hq'
     subst ev
     exact ⟨rv,⟨V.ref (s.heap.objs.size + 1),H',I3,rfl,q3⟩⟩
   | next=>exact False.elim hq'
   | brk=>exact False.elim hq'
   | cont=>exact False.elim hq'
theorem ed (M:Mk X.K C f)(F:FnOk X.prog X.w X.K X.mg X.base CX k f fd ps sp)(hr:Room (k + 1) X.A)(hg:Gl X x)(hm:X.mg x=some (.ref C))(hb:ay X.K fd ps ds)(hd:aI dvs ds)(hx:bQ CX X E)
 (ha:PA X (e :: es) t)(hdb:(x == ("__debug__":Str))=false:=by decide)(he:starEach (e :: es) X.env=(false,eval e X.env):: starEach es X.env:=by rfl)(hpl:(backTo pos (starEach es X.env)).any (·.1)=false:=by rfl):
 PE X (.Call (.Name x p) (e :: es) [] pos) (zH C sp dvs E t):=by
 intro pins s σ H Q I h
 refine wpAny_Call_Name_kw (d9 I hg hm ?_ hdb)
 refine PySem.W.callWith_K (h₀:=X.base) I.ok.mod.kin M.kp (br (ha pos pins s σ H _ I h) fun us s1 ⟨vs,H1,I1,r,q⟩=>⟨I1.kIn,?_⟩) he hpl
 exact ve M F hr hb hd hx I1 r q
end
structure FnScope (N P:List Str)(sc:Scope):Prop where
 kind:sc.kind = .function
 co:sc.isCoroutine=false
 gen:sc.isGenerator=false
 nd:N.Nodup
 pre:N.take P.length=P
 par:∀ x∈P,sc.names.lookup x=some .local∨sc.names.lookup x=some .cell
 nofree:∀ y∈sc.names,y.2 ≠ .free
theorem dB {N P:List Str}{sc:Scope}(h:sc.kind = .function∧sc.isCoroutine=false∧sc.isGenerator=false∧N.Nodup∧N.take P.length=P∧(∀ x∈P,sc.names.lookup x=some .local∨sc.names.lookup x=some .cell)∧∀ y∈sc.names,y.2 ≠ .free):FnScope N P sc:=⟨h.1,h.2.1,h.2.2.1,h.2.2.2.1,h.2.2.2.2.1,h.2.2.2.2.2.1,h.2.2.2.2.2.2⟩
theorem km {kindOf:Str->Option NameKind}{x:Str}:∀ {binds:List (Str × Value)}{m:Str->Option Value},(∀ v,(x,v) ∉ binds)->bindL kindOf binds m x=m x
 | [],_,_=>rfl
 | (n,v):: r,m,h=>by
   unfold bindL
   rw [km fun w hw=>h w (List.mem_cons_of_mem _ hw)]
   split
   ·have:x≠n:=by rintro rfl; exact h v List.mem_cons_self
    simp [this]
   ·rfl
theorem jZ {kindOf:Str->Option NameKind}{x:Str}:∀ {binds:List (Str × Value)}{m:Str->Option Value},(∀ v,(x,v) ∉ binds)->bindC kindOf binds m x=m x
 | [],_,_=>rfl
 | (n,v):: r,m,h=>by
   unfold bindC
   rw [jZ fun w hw=>h w (List.mem_cons_of_mem _ hw)]
   split
   ·rfl
   ·have:x≠n:=by rintro rfl; exact h v List.mem_cons_self
    simp [this]
theorem ke {kindOf:Str->Option NameKind}{x:Str}{v:Value}:∀ {P:List Str}{vs:List Value}{i:Nat}{m:Str->Option Value},P.Nodup->P[i]?=some x->vs[i]?=some v->kindOf x=some .local →
 bindL kindOf (P.zip vs) m x=some v
 | [],_,_,_,_,h,_,_=>by simp at h
 | _ :: _,[],_,_,_,_,h,_=>by simp at h
 | p :: P,w :: vs,0,m,nd,h1,h2,hk=>by
   simp at h1 h2; subst h1; subst h2
   show bindL kindOf ((p,w):: P.zip vs) m p=_
   unfold bindL
   rw [km fun v hv=>(List.nodup_cons.mp nd).1 (List.of_mem_zip hv).1,if_pos hk]
   simp
 | p :: P,w :: vs,i + 1,m,nd,h1,h2,hk=>by
   show bindL kindOf ((p,w):: P.zip vs) m x=_
   unfold bindL
   exact ke (i:=i) (List.nodup_cons.mp nd).2 (by simpa using h1) (by simpa using h2) hk
theorem j6 {kindOf:Str->Option NameKind}{x:Str}{v:Value}:∀ {P:List Str}{vs:List Value}{i:Nat}{m:Str->Option Value},P.Nodup->P[i]?=some x->vs[i]?=some v->kindOf x≠some .local →
 bindC kindOf (P.zip vs) m x=some v
 | [],_,_,_,_,h,_,_=>by simp at h
 | _ :: _,[],_,_,_,_,h,_=>by simp at h
 | p :: P,w :: vs,0,m,nd,h1,h2,hk=>by
   simp at h1 h2; subst h1; subst h2
   show bindC kindOf ((p,w):: P.zip vs) m p=_
   unfold bindC
   rw [jZ fun v hv=>(List.nodup_cons.mp nd).1 (List.of_mem_zip hv).1,if_neg hk]
   simp
 | p :: P,w :: vs,i + 1,m,nd,h1,h2,hk=>by
   show bindC kindOf ((p,w):: P.zip vs) m x=_
   unfold bindC
   exact j6 (i:=i) (List.nodup_cons.mp nd).2 (by simpa using h1) (by simpa using h2) hk
def fY (N:List Str)(vs:List V):St:=vs.map some++List.replicate (N.length - vs.length) none
def ff (CX:CXT)(P:Program)(w:World)(K:PySem.W.Frag)(mg:Str->Option Value)(base:Heap)(N:List Str)(qual:Str)(scope:Scope)(f:Addr)(cd:Value)(A:Around)(outer:List Env)(s:Shared)(H:Hp)(E:XK):Cx where
 prog:=P
 w:=w
 K:=K
 mg:=mg
 base:=base
 A:=A.deeper (envOfC qual scope s.heap.objs.size f cd)
 N:=N
 s₀:=s
 H₀:=H
 env:=envOfC qual scope s.heap.objs.size f cd
 outer:=outer
 stack:=envOfC qual scope s.heap.objs.size f cd :: outer
 ex:=[]
 calm:=true
 fn:=fun _=>true
 pn:=[]
 xe:=fun e s'=>wpAny (model P w) (A.deeper (envOfC qual scope s.heap.objs.size f cd)) (leaving (envOfC qual scope s.heap.objs.size f cd) e) (fun _ s''=>CX outer H s E e s'') (fun e' s''=>CX outer H s E e' s'') s'
theorem nY {sc:Scope}{n:Nat}{x:Str}(h:sc.names.lookup x=some .cell):∃ c,(cellsFrom n sc.names []).lookup x=some c:=by
 have q:=PySem.W.cellsFrom_some sc.names n [] (.inl h)
 exact Option.isSome_iff_exists.mp q
theorem tw {CX:CXT}{P:Program}{w:World}{K:PySem.W.Frag}{mg:Str->Option Value}{base:Heap}{N ps:List Str}{qual:Str}{scope:Scope}{f:Addr}{cd:Value}{A:Around}{outer:List Env}{s s1:Shared}{H:Hp}{E:XK}{us:List Value}{vs:List V}
 (S:FnScope N ps scope)(hd:A.handled=none)(e0:Env0 P w K mg base A outer s H)(hl:vs.length=ps.length)(r:aI vs us)
 (x:InCallC s s.heap.objs.size (bindL (envOfC qual scope s.heap.objs.size f cd).kindOf (ps.zip us) fun _=>none) (cellsFrom (s.heap.objs.size + 1) scope.names []) (bindC (envOfC qual scope s.heap.objs.size f cd).kindOf (ps.zip us) fun _=>none) s1):
 Inv (ff CX P w K mg base N qual scope f cd A outer s H E) [] (fY N vs) H s1:=by
 have hpl:ps.length≤N.length:=by have:=congrArg List.length S.pre; rw [List.length_take] at this; omega
 obtain ⟨h1,tk,rfl,hk⟩:=x.done
 have noA:∀ b:Addr,b ∉ (ff CX P w K mg base N qual scope f cd A outer s H E).ex:=fun b z=>absurd (show b∈([]:List Addr) from z) (by simp)
 refine ⟨⟨e0.mod,S.kind,rfl,rfl,Nat.le_refl _,fun y z c h1 h2=>?_,fun y hy=>?_,fun y c _ h=>?_,fun _=>hd,Around.frames_deeper e0.frames,.inr ⟨rfl,rfl⟩,fun b z=>absurd z (noA b),e0.bs,e0.bsz,fun b _ _=>noA b,fun b z=>absurd z (noA b),e0.funs,e0.frf⟩,
  rfl,e0.bare,Un.kept hk,⟨_,x.toInCall.ns,fun i y v h1 h2 h3=>?_⟩,fun y c h=>⟨_,x.cell y c h⟩,e0.hok.fresh (Nat.le_refl _),fun y c h=>?_,fun p hp=>absurd (show p∈([]:List (Addr × Obj)) from hp) (by simp),e0.hok.kept hk,?_⟩
 ·exact name_of_addr x.apart (PySem.mem_of_lookup h1) (PySem.mem_of_lookup h2)
 ·have hy:scope.names.lookup y=some .cell∨scope.names.lookup y=some .free:=hy
  rcases hy with hy | hy
  ·exact nY hy
  ·exact absurd rfl (S.nofree _ (PySem.mem_of_lookup hy))
 ·exact Nat.le_of_lt (x.above y c (PySem.mem_of_lookup h))
 ·have hi:i < vs.length:=by
   unfold fY at h2
   by_cases hi:i < vs.length
   ·exact hi
   ·rw [List.getElem?_append_right (by simpa using hi)] at h2
    rw [List.getElem?_replicate] at h2
    split at h2 <;> cases h2
  have ha:vs[i]?=some v:=by
   unfold fY at h2
   rw [List.getElem?_append_left (by simpa using hi),List.getElem?_map] at h2
   cases e:vs[i]? with
   | none=>rw [e] at h2; cases h2
   | some a=>rw [e] at h2; cases h2; rfl
  obtain ⟨u,hu,rv⟩:=r.get ha
  have hp:ps[i]?=some y:=by
   rw [← S.pre,List.getElem?_take_of_lt (by omega)]; exact h1
  have ndP:ps.Nodup:=by rw [← S.pre]; exact S.nd.sublist (List.take_sublist _ _)
  refine ⟨u,rv,?_⟩
  rcases S.par y (List.mem_of_getElem? hp) with k | k
  ·exact .inl ⟨k,ke ndP hp hu k⟩
  ·obtain ⟨c,e⟩:=nY (n:=s.heap.objs.size + 1) k
   refine .inr ⟨.inl k,c,e,?_⟩
   have q:=x.cell y c e
   rw [j6 ndP hp hu (by show scope.names.lookup y≠_; rw [k]; decide)] at q
   exact q
 ·exact e0.hok.fresh (Nat.le_of_lt (x.above y c (PySem.mem_of_lookup h)))
 ·unfold fY
  show _=N.length
  rw [List.length_append,List.length_map,List.length_replicate]
  omega
theorem xT {CX:CXT}{P:Program}{w:World}{K:PySem.W.Frag}{mg:Str->Option Value}{base:Heap}{k:Nat}{f:Addr}{name qual:Str}{params:Arguments}{body:List Stmt}{scope:Scope}{dV kV doc pm cdv ct oc:Value}{an od:Option Addr}
 {osl:Array (Option Value)}{N ps:List Str}{sp:Sp}(lk:K.lookup f=some ⟨oc,od,.func (PySem.W.fnOf name qual params body scope dV kV doc pm an cdv ct),osl⟩)(hcd:PySem.W.codeIn K cdv qual=true)(S:FnScope N ps scope)
 (len:∀ vs H Q E,sp vs H Q E->vs.length=ps.length)
 (hbody:∀ (A:Around)(outer:List Env)(s:Shared)(H:Hp)(vs:List V)(Q:VK)(E:XK),Room k (A.deeper (envOfC qual scope s.heap.objs.size f cdv))->sp vs H Q E →
  ∃ t,ju (ff CX P w K mg base N qual scope f cdv A outer s H E) body t∧t { nx:=fun _ H'=>Q .non H',rt:=Q } (fY N vs) H):
 FnOk P w K mg base CX (k + 1) f (PySem.W.fnOf name qual params body scope dV kV doc pm an cdv ct) ps sp:=by
 refine ⟨len,fun A outer s H args us vs Q E hr e0 hb r hsp=>?_⟩
 have hl:=len _ _ _ _ hsp
 have KX:K.In s.heap:=e0.mod.kin.keeps fun b o e=>(e0.bs b o e).1
 have lim:s.heap.NoLimit:=e0.mod.nolimit.keeps fun b o e=>(e0.bs b o e).1
 have hkind:∀ y∈ps.zip us,scope.names.lookup y.1=some .local∨(scope.names.lookup y.1=some .cell∧((cellsFrom (s.heap.objs.size + 1) scope.names []).lookup y.1).isSome=true):=fun ⟨n,v⟩ hy=>by
  rcases S.par n (List.of_mem_zip hy).1 with q | q
  ·exact .inl q
  ·exact .inr ⟨q,PySem.W.cellsFrom_some _ _ _ (.inl q)⟩
 refine codeAny_call_function hr.depth (KX _ _ lk) rfl S.co S.gen rfl (PySem.W.codeRec_of KX hcd) (hb _ _ _ _ ?_)
 refine wpAny_newFunctionEnv_cells S.kind hkind fun env he s1 x=>?_
 subst he
 refine ⟨lim.keeps x.toInCall.keep,codeAny_func ?_⟩
 obtain ⟨t,ht,hq⟩:=hbody A outer s H vs Q E (hr.deeper _) hsp
 have I:Inv (ff CX P w K mg base N qual scope f cdv A outer s H E) [] (fY N vs) H s1:=tw S hr.hd e0 hl r x
 refine wpAny_mono (ht [] s1 (fY N vs) H _ I hq) (fun fl s' hs=>?_) fun e s' hs=>hs
 have fin:∀ {σ':St}{H':Hp}{v:V}{u:Value},Inv (ff CX P w K mg base N qual scope f cdv A outer s H E) [] σ' H' s'->aC v u->Q v H'->CE outer P w H s Q u s' :=
  fun {σ' H' v u} J rv q=>⟨v,H',J.os,J.bare,J.base,J.hok,rv,q⟩
 cases fl with
 | ret u =>
   obtain ⟨v,σ',H',J,rv,q⟩:=hs
   exact fin J rv q
 | next =>
   obtain ⟨σ',H',J,q⟩:=hs
   exact fin (v:=V.non) (u:=Value.none) J rfl q
 | brk =>
   obtain ⟨_,_,_,q⟩:=hs
   exact False.elim q
 | cont =>
   obtain ⟨_,_,_,q⟩:=hs
   exact False.elim q
section
variable {X:Cx}{x:Str}{p pos:Pos}{e:Expr}{es:List Expr}{t:TA}{id T:String}{r:List V->Hp->VK->Prop}
def BU (r:List V->Hp->VK->Prop)(t:TA):TE:=fun σ H Q=>t σ H fun vs H1=>r vs H1 Q
theorem aH (hc:cy X (.builtin id) r)(hg:Gl X x)(hm:X.mg x=none)(hv:bootBuiltins x=some (.builtin id))(ha:PA X (e :: es) t)(hn:x ≠ "__name__":=by decide)(hdb:(x == ("__debug__":Str))=false:=by decide)
 (he:starEach (e :: es) X.env=(false,eval e X.env):: starEach es X.env:=by rfl)(hpl:(backTo pos (starEach es X.env)).any (·.1)=false:=by rfl):PE X (.Call (.Name x p) (e :: es) [] pos) (BU r t):=by
 intro pins s σ H Q I h
 refine wpAny_Call_Name_kw (dH I hg hm hv ?_ hn hdb)
 exact PyProof.Rows.callWith_builtin1 (br (ha pos pins s σ H _ I h) fun us s1 ⟨vs,H1,I1,r1,q1⟩=>hc pins s1 σ H1 vs us Q I1 r1 q1) he hpl
theorem aQ (hc:cy X (.type T) r)(hg:Gl X x)(hm:X.mg x=none)(hv:bootBuiltins x=some (.type T))(ha:PA X (e :: es) t)(hn:x ≠ "__name__":=by decide)(hdb:(x == ("__debug__":Str))=false:=by decide)
 (he:starEach (e :: es) X.env=(false,eval e X.env):: starEach es X.env:=by rfl)(hpl:(backTo pos (starEach es X.env)).any (·.1)=false:=by rfl):PE X (.Call (.Name x p) (e :: es) [] pos) (BU r t):=by
 intro pins s σ H Q I h
 refine wpAny_Call_Name_kw (dH I hg hm hv ?_ hn hdb)
 exact PyProof.Rows.callWith_type1 (br (ha pos pins s σ H _ I h) fun us s1 ⟨vs,H1,I1,r1,q1⟩=>hc pins s1 σ H1 vs us Q I1 r1 q1) he hpl
end
section
variable {κ:Type} [DecidableEq κ]
def gm (kvs:List (κ × V))(k:κ):Option V:=(kvs.find? fun kv=>decide (kv.1=k)).map (·.2)
def dA (kvs:List (κ × V))(k:κ)(v:V):List (κ × V):=
 if (kvs.any fun kv=>decide (kv.1=k))=true then kvs.map (fun kv=>if kv.1=k then (kv.1,v) else kv) else kvs++[(k,v)]
theorem fB {p:κ × V}{r:List (κ × V)}{k:κ}(e:p.1=k):gm (p :: r) k=some p.2:=by simp [gm,List.find?_cons,e]
theorem dQ {p:κ × V}{r:List (κ × V)}{k:κ}(e:¬ p.1=k):gm (p :: r) k=gm r k:=by simp [gm,List.find?_cons,e]
theorem i4 (k:κ):∀ kvs:List (κ × V),(kvs.any fun kv=>decide (kv.1=k))=(gm kvs k).isSome
 | []=>rfl
 | p :: r=>by
   rw [List.any_cons]
   by_cases e:p.1=k
   ·simp only [fB e,decide_eq_true e,Bool.true_or,Option.isSome_some]
   ·rw [dQ e,decide_eq_false e,Bool.false_or]; exact i4 k r
theorem gJ (kvs:List (κ × V))(k:κ)(v:V):(dA kvs k v).length≤kvs.length + 1:=by
 unfold dA
 split
 ·rw [List.length_map]; omega
 ·rw [List.length_append,List.length_cons,List.length_nil]; omega
theorem dM.isSome_eq {o:Option V}{u:Option Value}(r:dM o u):o.isSome=u.isSome:=by
 cases o with
 | none=>cases u with
   | none=>rfl
   | some _=>exact (show False from r).elim
 | some _=>cases u with
   | none=>exact (show False from r).elim
   | some _=>rfl
theorem dM.getD {o:Option V}{u:Option Value}{d:V}{d':Value}(r:dM o u)(rd:aC d d'):aC (o.getD d) (u.getD d'):=by
 cases o with
 | none=>cases u with
   | none=>exact rd
   | some _=>exact (show False from r).elim
 | some _=>cases u with
   | none=>exact (show False from r).elim
   | some _=>exact r
theorem KV.val {kvs:List (κ × V)}{vs:List (κ × Value)}(r:KV kvs vs)(k:κ):dM (gm kvs k) (valueAt vs k):=by
 unfold KV at r
 induction r with
 | nil=>exact True.intro
 | @cons p q ps qs h t ih =>
   obtain ⟨h1,h2⟩:=h
   by_cases e:p.1=k
   ·have e':q.1=k:=h1.symm.trans e
    have b:valueAt (q :: qs) k=some q.2:=by simp [valueAt,List.find?_cons,e']
    rw [fB e,b]; exact h2
   ·have e':¬ q.1=k:=fun z=>e (h1.trans z)
    have b:valueAt (q :: qs) k=valueAt qs k:=by simp [valueAt,List.find?_cons,e']
    rw [dQ e,b]; exact ih
theorem KV.any {kvs:List (κ × V)}{vs:List (κ × Value)}(r:KV kvs vs)(k:κ):(kvs.any fun kv=>decide (kv.1=k))=vs.any fun kv=>decide (kv.1=k):=by
 unfold KV at r
 induction r with
 | nil=>rfl
 | cons h t ih=>rw [List.any_cons,List.any_cons,ih,h.1]
theorem KV.repl {kvs:List (κ × V)}{vs:List (κ × Value)}(r:KV kvs vs)(k:κ){y:V}{u:Value}(ry:aC y u):
 KV (kvs.map fun kv=>if kv.1=k then (kv.1,y) else kv) (vs.map fun kv=>if kv.1=k then (kv.1,u) else kv):=by
 unfold KV at r ⊢
 induction r with
 | nil=>exact .nil
 | @cons p q ps qs h t ih =>
   rw [List.map_cons,List.map_cons]
   refine .cons ?_ ih
   obtain ⟨h1,h2⟩:=h
   by_cases e:p.1=k
   ·rw [if_pos e,if_pos (h1.symm.trans e)]; exact ⟨h1,ry⟩
   ·rw [if_neg e,if_neg (fun z=>e (h1.trans z))]; exact ⟨h1,h2⟩
theorem KV.put {kvs:List (κ × V)}{vs:List (κ × Value)}(r:KV kvs vs)(k:κ){y:V}{u:Value}(ry:aC y u):KV (dA kvs k y) (stored vs k u):=by
 unfold dA stored
 rw [r.any k]
 by_cases e:(vs.any fun kv=>decide (kv.1=k))=true
 ·rw [if_pos e,if_pos e]; exact r.repl k ry
 ·rw [if_neg e,if_neg e]; exact Paired.snoc r ⟨rfl,ry⟩
theorem KV.length {kvs:List (κ × V)}{vs:List (κ × Value)}(r:KV kvs vs):kvs.length=vs.length:=Paired.length r
end
theorem ny {P:Program}{w:World}{k:Key}{u:Value}(r:aC (kV k) u):(bq P w).is k u=true:=by
 cases k with
 | inl i=>obtain ⟨t,e⟩:=(show ∃ t,u=Value.int i t from r); subst e; exact mD P w i t
 | inr x=>obtain ⟨t,e⟩:=(show ∃ t,u=Value.str x t from r); subst e; exact mY P w x t
theorem jX {P:Program}{w:World}:∀ {ks:List Key}{us:List Value},aI (ks.map kV) us->ItemsAre (bq P w) ks us
 | [],_,r=>by rw [List.map_nil] at r; cases r; exact .nil
 | k :: ks,_,r=>by
   rw [List.map_cons] at r
   cases r with
   | cons h t=>exact .cons (ny h) (jX t)
abbrev KT (H:Hp):List (List Key × V)->List (List Key × Addr × Value)->Prop:=Paired fun p q=>p.1=q.1∧H q.2.1=some (.tup (p.1.map kV))∧aC p.2 q.2.2
theorem KT.val {H:Hp}{kvs:List (List Key × V)}{xs:List (List Key × Addr × Value)}(r:KT H kvs xs)(k:List Key):dM (gm kvs k) ((atKey xs k).map (·.2)):=by
 induction r with
 | nil=>exact True.intro
 | @cons p q ps qs h t ih =>
   obtain ⟨h1,_,h2⟩:=h
   by_cases e:p.1=k
   ·have e':q.1=k:=h1.symm.trans e
    have b:atKey (q :: qs) k=some q.2:=by simp [atKey,List.find?_cons,e']
    rw [fB e,b]; exact h2
   ·have e':¬ q.1=k:=fun z=>e (h1.trans z)
    have b:atKey (q :: qs) k=atKey qs k:=by simp [atKey,List.find?_cons,e']
    rw [dQ e,b]; exact ih
theorem KT.repl {H:Hp}{kvs:List (List Key × V)}{xs:List (List Key × Addr × Value)}(r:KT H kvs xs)(k:List Key){y:V}{u:Value}(ry:aC y u):
 KT H (kvs.map fun kv=>if kv.1=k then (kv.1,y) else kv) (xs.map (putAt k u)):=by
 induction r with
 | nil=>exact .nil
 | @cons p q ps qs h t ih =>
   rw [List.map_cons,List.map_cons]
   refine .cons ?_ ih
   obtain ⟨h1,h2,h3⟩:=h
   unfold putAt
   by_cases e:p.1=k
   ·rw [if_pos e,if_pos (h1.symm.trans e)]; exact ⟨h1,h2,ry⟩
   ·rw [if_neg e,if_neg (fun z=>e (h1.trans z))]; exact ⟨h1,h2,h3⟩
theorem KT.put {H:Hp}{kvs:List (List Key × V)}{xs:List (List Key × Addr × Value)}(r:KT H kvs xs)(k:List Key){b:Addr}{y:V}{u:Value}(hb:H b=some (.tup (k.map kV)))(ry:aC y u):
 KT H (dA kvs k y) (storedH xs k b u):=by
 have e:(kvs.any fun kv=>decide (kv.1=k))=(atKey xs k).isSome:=by
  rw [i4,(r.val k).isSome_eq,Option.isSome_map]
 unfold dA storedH
 rw [e]
 by_cases q:(atKey xs k).isSome=true
 ·rw [if_pos q,if_pos q]; exact r.repl k ry
 ·rw [if_neg q,if_neg q]; exact Paired.snoc r ⟨rfl,hb,ry⟩
theorem KT.keeps {H H':Hp}{kvs:List (List Key × V)}{xs:List (List Key × Addr × Value)}(r:KT H kvs xs)(ht:∀ b ys,H b=some (.tup ys)->H' b=some (.tup ys)):KT H' kvs xs :=
 Paired.mapP r fun _ _ z=>⟨z.1,ht _ _ z.2.1,z.2.2⟩
section
variable {P:Program}{w:World}{H:Hp}{h:Heap}{a:Addr}
theorem xW {u:HO}(ok:dY P w H h)(e:Rd H a u):a8 P w H h a u:=e.ok ok
theorem jP {kvs:List (Key × V)}(ok:dY P w H h)(e:Rd H a (.dK kvs)):kvs.length≤sizeLine∧(a == sysModules)=false∧∃ vs,KV kvs vs∧h.DictOf (bq P w) a vs :=
 show a8 P w H h a (.dK kvs) from xW ok e
theorem Ad {kvs:List (Key × V)}(ok:dY P w H h)(e:H a=some (.dK kvs)):kvs.length≤sizeLine∧(a == sysModules)=false∧∃ vs,KV kvs vs∧h.DictOf (bq P w) a vs:=jP ok (.inl e)
theorem iB {ks:List Key}(ok:dY P w H h)(e:H a=some (.tup (ks.map kV))):(tupleKind (bq P w)).is h ks a:=by
 obtain ⟨_,its,r,o,h1,h2,n,h3⟩:=(show a8 P w H h a (.tup (ks.map kV)) from ok a _ e)
 exact ⟨o,its.toArray,n,h1,h2,h3,by simpa using jX r⟩
theorem jI {kvs:List (List Key × V)}(ok:dY P w H h)(e:Rd H a (.dT kvs)):kvs.length≤sizeLine∧(a == sysModules)=false ∧
 ∃ xs,KT H kvs xs∧h.DictOfH (tupleKind (bq P w)) a xs:=by
 obtain ⟨z,y,xs,r,o,es,ep,h1,h2,h3,h4,h5⟩:=(show a8 P w H h a (.dT kvs) from xW ok e)
 refine ⟨z,y,xs,r,o,es,ep,h1,h2,h3,h4,fun x hx=>?_,h5⟩
 have all:∀ {l:List (List Key × V)}{m:List (List Key × Addr × Value)},KT H l m->∀ x∈m,(tupleKind (bq P w)).is h x.1 x.2.1:=by
  intro l m q
  induction q with
  | nil=>intro x hx; exact nomatch hx
  | @cons p q ps qs hq t ih =>
    intro x hx
    rcases List.mem_cons.mp hx with e | hx
    ·subst e
     exact iB ok (by rw [← hq.1]; exact hq.2.1)
    ·exact ih x hx
 exact all r x hx
theorem Al {kvs:List (List Key × V)}(ok:dY P w H h)(e:H a=some (.dT kvs)):kvs.length≤sizeLine∧(a == sysModules)=false ∧
 ∃ xs,KT H kvs xs∧h.DictOfH (tupleKind (bq P w)) a xs:=jI ok (.inl e)
end
def gb (H:Hp)(a:Addr)(y:V)(r:Option V):Prop :=
 (∃ kvs k,Rd H a (.dK kvs)∧y=kV k∧r=gm kvs k)∨∃ kvs k b,Rd H a (.dT kvs)∧y = .ref b∧H b=some (.tup (k.map kV))∧r=gm kvs k
def mU (H:Hp)(a:Addr)(y v:V)(H':Hp):Prop :=
 (∃ kvs k,H a=some (.dK kvs)∧y=kV k∧kvs.length < sizeLine∧H'=upd H a (.dK (dA kvs k v))) ∨
 ∃ kvs k b,H a=some (.dT kvs)∧y = .ref b∧H b=some (.tup (k.map kV))∧kvs.length < sizeLine∧H'=upd H a (.dT (dA kvs k v))
theorem gb.t {H:Hp}{a b:Addr}{kvs:List (List Key × V)}{k:List Key}(e:H a=some (.dT kvs))(eb:H b=some (.tup (k.map kV))):gb H a (.ref b) (gm kvs k):=.inr ⟨kvs,k,b,.inl e,rfl,eb,rfl⟩
theorem mU.t {H:Hp}{a b:Addr}{kvs:List (List Key × V)}{k:List Key}{v:V}(e:H a=some (.dT kvs))(eb:H b=some (.tup (k.map kV)))(hl:kvs.length < sizeLine):
 mU H a (.ref b) v (upd H a (.dT (dA kvs k v))):=.inr ⟨kvs,k,b,e,rfl,eb,hl,rfl⟩
section
variable {X:Cx}{pins:List (Addr × Obj)}{σ:St}{H:Hp}{s:Shared}{a:Addr}{y v:V}{u r:Value}{o:Option V}{A:Around}{E:Value->Shared->Prop}
theorem Inv.big (I:Inv X pins σ H s):sysModules < s.heap.objs.size:=by
 have h:mainGlobals < s.heap.objs.size:=(I.mod.glob.keeps I.bk).lt
 exact Nat.lt_trans (by decide) h
theorem q0 {Q:Value->Shared->Prop}(hu:A.units + 1 < cLine)(I:Inv X pins σ H s)(g:gb H a y (some v))(ry:aC y u)(h:∀ w' s',Inv X pins σ H s'->aC v w'->Q w' s'):
 wpAny (model X.prog X.w) A (getItem (.ref a) u) Q E s:=by
 rcases g with ⟨kvs,k,e,ey,l⟩ | ⟨kvs,k,b,e,ey,eb,l⟩
 ·subst ey
  obtain ⟨z,hd,vs,rel,dd⟩:=jP I.hok e
  obtain ⟨w',hw,rw'⟩:=dM.some_of (v:=v) (o:=valueAt vs k) (by rw [l]; exact rel.val k)
  exact wpAny_getItem_of (ny ry) dd.mapOf hw (h w' _ (I.tok _) rw')
 ·subst ey
  cases (show u=Value.ref b from ry)
  obtain ⟨z,hd,xs,rel,dd⟩:=jI I.hok e
  obtain ⟨w',hw,rw'⟩:=dM.some_of (v:=v) (o:=(atKey xs k).map (·.2)) (by rw [l]; exact rel.val k)
  obtain ⟨p,hp,hp2⟩:=Option.map_eq_some_iff.mp hw
  refine wpAny_getItem_heap (tupleKind_room_in1 hu) (iB I.hok eb) dd hp ?_
  rw [hp2]
  exact h w' _ (I.tok _) rw'
theorem BF {Q:Value->Shared->Prop}(hu:A.units + 1 < cLine)(I:Inv X pins σ H s)(g:gb H a y o)(ry:aC y u)(h:∀ s',Inv X pins σ H s'->Q (.bool o.isSome) s'):
 wpAny (model X.prog X.w) A (compareOp .In u (.ref a)) Q E s:=by
 rcases g with ⟨kvs,k,e,ey,l⟩ | ⟨kvs,k,b,e,ey,eb,l⟩
 ·subst ey
  obtain ⟨z,hd,vs,rel,dd⟩:=jP I.hok e
  refine wpAny_in_of (ny ry) hd dd.mapOf ?_
  rw [← (rel.val k).isSome_eq,← l]
  exact h _ (I.tok _)
 ·subst ey
  cases (show u=Value.ref b from ry)
  obtain ⟨z,hd,xs,rel,dd⟩:=jI I.hok e
  refine wpAny_in_heap (tupleKind_room_in1 hu) (iB I.hok eb) hd dd ?_
  have q:=(rel.val k).isSome_eq
  rw [Option.isSome_map] at q
  rw [← q,← l]
  exact h _ (I.tok _)
theorem pV {h':Heap}{t':Nat}{ob:HO}(I:Inv X pins σ H s)(mu:zU (H a))(hs:Heap.SameBut a s.heap h')(he:∃ q,h'.get? a=some q)(new:a8 X.prog X.w (upd H a ob) h' a ob):
 Inv X pins σ (upd H a ob) { s with heap:=h',toks:=t' }:=
 I.write (x:=a) (e:=a) mu (.inl rfl) (fun b q hb z=>(hs.2 b hb).trans z) he new
theorem yn {P:Program}{w:World}{H':Hp}{h':Heap}{kvs:List (Key × V)}{vs:List (Key × Value)}(z:kvs.length≤sizeLine)(hd:(a == sysModules)=false)(rel:KV kvs vs)(dd:h'.DictOf (bq P w) a vs):
 a8 P w H' h' a (.dK kvs):=⟨z,hd,vs,rel,dd⟩
theorem qW {H':Hp}{Q:Unit->Shared->Prop}(hu:A.units + 1 < cLine)(I:Inv X pins σ H s)(g:mU H a y v H')(ry:aC y u)(rv:aC v r)(h:∀ s',Inv X pins σ H' s'->Q () s'):
 wpAny (model X.prog X.w) A (setItem (.ref a) u r) Q E s:=by
 rcases g with ⟨kvs,k,e,ey,l,eH⟩ | ⟨kvs,k,b,e,ey,eb,l,eH⟩
 ·subst ey eH
  obtain ⟨z,hd,vs,rel,dd⟩:=Ad I.hok e
  have hz:vs.length≤sizeLine:=by rw [← rel.length]; exact z
  have hl:(dA kvs k v).length≤sizeLine:=by have:=gJ kvs k v; omega
  refine wpAny_setItem_pairs (hsz:=hz) (ny ry) dd fun h' dd' hs=>h _ ?_
  have he:∃ q,h'.get? a=some q:=let ⟨q,_,_,hq,_⟩:=dd'; ⟨q,hq⟩
  exact pV I (by rw [e]; exact True.intro) hs he (yn hl hd (rel.put k rv) dd')
 ·subst ey eH
  cases (show u=Value.ref b from ry)
  obtain ⟨z,hd,xs,rel,dd⟩:=Al I.hok e
  have hz:xs.length≤sizeLine:=by rw [← Paired.length rel]; exact z
  have hl:(dA kvs k v).length≤sizeLine:=by have:=gJ kvs k v; omega
  refine wpAny_setItem_heap (hsz:=hz) (tupleKind_room_in1 hu) (iB I.hok eb) dd fun h' dd' hs=>h _ ?_
  obtain ⟨q,es,ep,hq,h2,h3,h4,_,h5⟩:=dd'
  refine pV I (by rw [e]; exact True.intro) hs ⟨q,hq⟩ ⟨hl,hd,_,(rel.put k eb rv).keeps fun c ys ec=>?_,q,es,ep,hq,h2,h3,h4,h5⟩
  rw [ar (mx ec e (fun z=>nomatch z))]
  exact ec
end
def Aa (i:Expr):Prop:=∀ ov iv,subscripted i false ov iv=operate [ov,iv] (getItem ov iv)
theorem xp {prog:Program}{w:World}{A:Around}{E:Value->Shared->Prop}{s:Shared}{env:Env}{value slice:Expr}{pos:Pos}{T id:String}{Q:Value->Shared->Prop}
 (hl:typeLookup (.type T) "__getitem__"=pure (some (.builtin id)))(hs:Aa slice)
 (h:wpAny (model prog w) A (eval value env) (fun o s₁=>wpAny (model prog w) A (eval slice env) (fun i s₂=>s₂.TypeIs o T∧wpAny (model prog w) A (getItem o i) Q E s₂) E s₁) E s):
 wpAny (model prog w) A (eval (.Subscript value slice pos) env) Q E s:=by
 refine Subscript_ (wpAny_mono h (fun o s₁ h₁=>wpAny_mono h₁ (fun i s₂ h₂=>?_) fun _ _ x=>x) fun _ _ x=>x)
 obtain ⟨hT,h₂⟩:=h₂
 unfold subscriptTail
 refine wpAny_bind ?_
 rw [getitemInPython_of_ne hT.not_modules]
 refine wpAny_bind (wpAny_specialOf hT hl ?_)
 have fin:wpAny (model prog w) A (subscripted slice false o i) (fun r s₃=>wpAny (model prog w) A (letTemporaryGo value o r >>= fun _=>pure r) Q E s₃) E s₂:=by
  rw [hs o i]
  exact wpAny_operating (wpAny_mono h₂ (fun r s₃ h₃=>wpAny_bind (wpAny_letTemporaryGo (wpAny_pure h₃))) fun _ _ x=>x)
 first
  | exact wpAny_pure (wpAny_bind fin)
  | exact wpAny_bind (wpAny_pure (wpAny_bind fin))
  | exact wpAny_bind fin
theorem mz {X:Cx}{pins:List (Addr × Obj)}{σ:St}{H:Hp}{s:Shared}{a:Addr}{y:V}{o:Option V}(I:Inv X pins σ H s)(g:gb H a y o):s.TypeIs (.ref a) "dict":=by
 rcases g with ⟨kvs,k,e,_,_⟩ | ⟨kvs,k,b,e,_,_,_⟩
 ·obtain ⟨_,_,vs,_,dd⟩:=jP I.hok e
  exact dd.typeIs
 ·obtain ⟨_,_,xs,_,dd⟩:=jI I.hok e
  exact dd.typeIs
def AJ (td ty:TE):TE:=fun σ H Q=>td σ H fun x H1=>ty σ H1 fun y H2=>∃ a v,x = .ref a∧gb H2 a y (some v)∧Q v H2
def A2 (ty td:TE):TE:=fun σ H Q=>ty σ H fun y H1=>td σ H1 fun x H2=>∃ a o,x = .ref a∧gb H2 a y o∧Q (.bl o.isSome) H2
def AA (td ty tv:TE):TS:=fun D σ H=>tv σ H fun v H1=>td σ H1 fun x H2=>ty σ H2 fun y H3=>∃ a H4,x = .ref a∧mU H3 a y v H4∧D.nx σ H4
section
variable {X:Cx}{o i e value:Expr}{pos pos' tpos:Pos}{td ty tv:TE}
theorem kY (hu:X.A.units + 1 < cLine)(ho:PE X o td)(hi:PE X i ty)(hs:Aa i):PE X (.Subscript o i pos) (AJ td ty):=by
 intro pins s σ H Q I h
 refine xp PySem.F.slot_dict_getitem.lookup hs (br (ho pins s σ H _ I h) fun u s1 ⟨x,H1,I1,rx,q1⟩=>br (hi pins s1 σ H1 _ I1 q1) fun iv s2 ⟨y,H2,I2,ry,a,v,ex,g,q2⟩=>?_)
 subst ex
 obtain rfl:u=Value.ref a:=rx
 exact ⟨mz I2 g,q0 hu I2 g ry fun w' s3 I3 rw'=>⟨v,H2,I3,rw',q2⟩⟩
theorem yR (hu:X.A.units + 1 < cLine)(hi:PE X i ty)(ho:PE X o td):PC X .In i o (A2 ty td):=by
 intro pins s σ H Q I h
 refine br (hi pins s σ H _ I h) fun iv s1 ⟨y,H1,I1,ry,q1⟩=>br (ho pins s1 σ H1 _ I1 q1) fun u s2 ⟨x,H2,I2,rx,a,ov,ex,g,q2⟩=>?_
 subst ex
 obtain rfl:u=Value.ref a:=rx
 exact BF hu I2 g ry fun s3 I3=>⟨.bl ov.isSome,H2,I3,rfl,q2⟩
theorem qo (hu:X.A.units + 1 < cLine)(ho:PE X o td)(hi:PE X i ty)(hv:PE X value tv)(hs:swapsWith value (some (.Subscript o i pos')) pos.line X.env=pure false):
 PS X (.Assign [.Subscript o i pos'] value pos) (AA td ty tv):=by
 intro pins s σ H D I h
 refine wpAny_Assign_Subscript (br (hv pins s σ H _ I h) fun r s1 ⟨v,H1,I1,rv,q1⟩=>br (ho pins s1 σ H1 _ I1 q1) fun u s2 ⟨x,H2,I2,rx,q2⟩=>br (hi pins s2 σ H2 _ I2 q2) fun iv s3 ⟨y,H3,I3,ry,a,H4,ex,g,q3⟩=>?_) hs
 subst ex
 obtain rfl:u=Value.ref a:=rx
 exact qW hu I3 g ry rv fun s4 I4=>⟨σ,H4,I4,q3⟩
end
theorem vV {P:Program}{w:World}{H:Hp}(h:Heap)(hb:sysModules < h.objs.size):a8 P w H (h.push { cls:=.type "dict",data:=.dict #[] }) h.objs.size (.dT []):=
 ⟨Nat.zero_le _,beq_eq_false_iff_ne.mpr (Ne.symm (Nat.ne_of_lt hb)),[],.nil,_,#[],0,Heap.get?_push_size _ rfl,⟨rfl,rfl,rfl⟩,rfl,rfl,List.nodup_nil⟩
def tDNewT:TE:=fun _ H Q=>∀ p,H p=none->Q (.ref p) (upd H p (.dT []))
section
variable {X:Cx}{pos:Pos}
theorem mJ:PE X (.Dict [] [] pos) tDNewT:=fun pins s σ H Q I h =>
 wpAny_Dict_empty ⟨.ref s.heap.objs.size,_,I.laid (a:=s.heap.objs.size) (o:=.dT []) (t':=s.toks) (fun _ _ q=>Heap.get?_push_of_some _ q) (Nat.le_refl _) (vV s.heap I.big),rfl,h _ (I.hok.fresh (Nat.le_refl _))⟩
end
structure M2 (X:Cx)(o:Expr)(m:Str)(apos:Pos)(e f:Expr)(cpos:Pos):Prop where
 base:attributeBase o m X.env (eval o X.env)=eval o X.env
 few:((backTo cpos (starEach [e,f] X.env)).all (fun x=>!x.1)&&(backToKw cpos (keywordEach [] X.env)).all (fun x=>x.1.isSome)
  && decide (([e,f]:List Expr).length + ([]:List Keyword).length + (if ([]:List Keyword).isEmpty then 0 else 1) < 30))=true
 line:(apos.endLine == cpos.line)=true
 trees:backTo cpos (starEach [e,f] X.env)=[(false,eval e X.env),(false,eval f X.env)]
def BI (H:Hp)(a:Addr):Prop:=(∃ kvs,Rd H a (.dK kvs))∨∃ kvs,Rd H a (.dT kvs)
theorem y3 {X:Cx}{pins:List (Addr × Obj)}{σ:St}{H:Hp}{s:Shared}{a:Addr}(I:Inv X pins σ H s)(d:BI H a):
 s.TypeIs (.ref a) "dict"∧(∀ b,Value.ref a = .ref b->∃ ob,s.heap.get? b=some ob∧ob.dict=none)∧(a == sysModules)=false:=by
 rcases d with ⟨kvs,e⟩ | ⟨kvs,e⟩
 ·obtain ⟨_,hd,vs,_,dd⟩:=jP I.hok e
  refine ⟨dd.typeIs,fun b q=>?_,hd⟩
  cases q
  obtain ⟨ob,_,_,h1,h2,_⟩:=dd
  exact ⟨ob,h1,h2.2.1⟩
 ·obtain ⟨_,hd,xs,_,dd⟩:=jI I.hok e
  refine ⟨dd.typeIs,fun b q=>?_,hd⟩
  cases q
  obtain ⟨ob,_,_,h1,h2,_⟩:=dd
  exact ⟨ob,h1,h2.2.1⟩
section
variable {X:Cx}{pins:List (Addr × Obj)}{σ:St}{H:Hp}{s:Shared}{a:Addr}{y d:V}{u r:Value}{o:Option V}{A:Around}{E:Value->Shared->Prop}
theorem yq {Q:Value->Shared->Prop}(hu:A.units + 1 < cLine)(I:Inv X pins σ H s)(g:gb H a y o)(ry:aC y u)(rd:aC d r)(h:∀ w' s',Inv X pins σ H s'->aC (o.getD d) w'->Q w' s'):
 wpAny (model X.prog X.w) A (call (.builtin "dict.get") [.ref a,u,r]) Q E s:=by
 rcases g with ⟨kvs,k,e,ey,l⟩ | ⟨kvs,k,b,e,ey,eb,l⟩
 ·subst ey
  obtain ⟨z,hd,vs,rel,dd⟩:=jP I.hok e
  refine call_meetsIn PySem.F.slot_dict_get dd.typeIs PySem.F.entry_dict_get (PySem.F.args_dict_get_3 _ _ _) (meets_dict_get_default (bq X.prog X.w) a (ny ry) hd r) ⟨_,dd.mapOf,h _ _ (I.tok _) ?_⟩
  rw [l]
  exact (rel.val k).getD rd
 ·subst ey
  cases (show u=Value.ref b from ry)
  obtain ⟨z,hd,xs,rel,dd⟩:=jI I.hok e
  refine call_meetsIn PySem.F.slot_dict_get dd.typeIs PySem.F.entry_dict_get (PySem.F.args_dict_get_3 _ _ _) (meetsH_dict_get_default (tupleKind (bq X.prog X.w)) a b hd r) ⟨tupleKind_room_in1 hu,k,xs,iB I.hok eb,dd,h _ _ (I.tok _) ?_⟩
  rw [l]
  exact (rel.val k).getD rd
end
def zo (td ty tx:TE):TE:=fun σ H Q=>td σ H fun x H1=>∃ a,x = .ref a∧BI H1 a∧ty σ H1 fun y H2=>tx σ H2 fun z H3=>∃ o,gb H3 a y o∧Q (o.getD z) H3
section
variable {X:Cx}{o e f:Expr}{apos cpos:Pos}{td ty tx:TE}
theorem vJ (hu:X.A.units + 1 < cLine)(ho:PE X o td)(he:PE X e ty)(hf:PE X f tx)(m:M2 X o "get" apos e f cpos):PE X (.Call (.Attribute o "get" apos) [e,f] [] cpos) (zo td ty tx):=by
 intro pins s σ H Q I h
 refine wpAny_Call_method m.base m.few m.line PySem.F.plainAttrs_dict PySem.F.slot_dict_get PySem.F.type_dict_get (br (ho pins s σ H _ I h) fun u s1 ⟨x,H1,I1,rx,a,ex,d,q1⟩=>?_)
 subst ex
 obtain rfl:u=Value.ref a:=rx
 obtain ⟨t1,t2,_⟩:=y3 I1 d
 refine ⟨t1,t2,?_⟩
 rw [m.trees]
 refine Calls.callWith_builtin rfl (Calls.evalArgs_plain (Calls.spliced_cons (br (he pins s1 σ H1 _ I1 q1) fun iv s2 ⟨y,H2,I2,ry,q2⟩ =>
  Calls.spliced_cons (br (hf pins s2 σ H2 _ I2 q2) fun fv s3 ⟨z,H3,I3,rz,ov,g,q3⟩=>Calls.spliced_nil ?_))))
 exact yq hu I3 g ry rz fun w' s4 I4 rw'=>⟨_,H3,I4,rw',q3⟩
end
end L2
namespace HT
open PySem PyProof.Rows
def cb:List Int->List Int->Bool
 | [],[]=>false
 | [],_ :: _=>true
 | _ :: _,[]=>false
 | x :: xs,y :: ys=>if x=y then cb xs ys else decide (x < y)
theorem cS (x y:Int)(xs ys:List Int):cb (x :: xs) (y :: ys)=if x=y then cb xs ys else decide (x < y):=rfl
theorem jv:cb [] []=false:=rfl
theorem jn (y:Int)(ys:List Int):cb [] (y :: ys)=true:=rfl
theorem jg (x:Int)(xs:List Int):cb (x :: xs) []=false:=rfl
theorem vf (A:Around)(s:Shared)(a:Int)(t:Tok)(c:Int)(u:Tok):∃ e,SeqAt.EqAt A s (.int a t) (.int c u) e∧(e=true ↔ a=c):=
 ⟨(a == c),SeqAt.EqAt.int_int a t c u,by simp⟩
theorem vW (A:Around)(s:Shared)(a:Int)(t:Tok)(c:Int)(u:Tok)(prog:Program)(w:World)(E:Value->Shared->Prop)(Q:Value->Shared->Prop)(h:Q (.bool (decide (a < c))) s):
 wpAny (model prog w) A (richCompare .Lt (.int a t) (.int c u)) Q E s :=
 (PyProof.Rows.lt_int h:wpAny (model prog w) A (compareOp .Lt (.int a t) (.int c u)) Q E s)
section
open PySem.SeqAt
open PySem.AutoSeq1 (wpAny_loadPart')
open PySem.MeetsSeq PySem.MeetsSeq2 PySem.MeetsSeq3
theorem jF (l b:Addr)(items items2:Array Value)(n n2:Nat)(dd dd2:Option Addr)(sl sl2:Array (Option Value))(ns ms:List Int)(hi:IntsAre items.toList ns)(hj:IntsAre items2.toList ms):
 Meets (Builtin.«tuple.__lt__» ⟨[.ref l,.ref b],[]⟩)
  (fun _ R s=>s.heap.get? l=some { cls:=.type "tuple",dict:=dd,data:=.seq items n,slots:=sl }∧s.heap.get? b=some { cls:=.type "tuple",dict:=dd2,data:=.seq items2 n2,slots:=sl2 } ∧
   R (.ok (.ret (.bool (cb ns ms)))) s):=
 .of_wp fun prog w A R s h=>by
  obtain ⟨hp,g,d,tk,os⟩:=s; obtain ⟨hl,hb,h⟩:=h
  have f2:=AutoSeq1.sub_tuple_tuple
  have z1:items.size=ns.length:=by rw [← hi.length]; simp
  have z2:items2.size=ms.length:=by rw [← hj.length]; simp
  wp_walk using wpAny_loadPart' hl,wpAny_loadPart' hb,wpAny_forIn_list _ (fun rest b s'=>b.1=none∧s'=⟨hp,g,d,tk,os⟩∧∃ (vs ws:List Value)(ns' ms':List Int),rest=vs.zip ws ∧
   IntsAre vs ns'∧IntsAre ws ms'∧ns'.length + items2.size=ms'.length + items.size∧R (.ok (.ret (.bool (cb ns' ms')))) ⟨hp,g,d,tk,os⟩) _
  case turn =>
   rintro ⟨y,x⟩ rest b s' ⟨hb',rfl,vs,ws,ns',ms',hz,hvi,hwi,hlen,hR⟩
   cases hvi with
   | nil=>rw [List.zip_nil_left] at hz; cases hz
   | cons a t hvi' =>
     cases hwi with
     | nil=>rw [List.zip_nil_right] at hz; cases hz
     | cons c u hwi' =>
       rw [List.zip_cons_cons] at hz
       injection hz with hyx hrest
       injection hyx with hy hx
       subst hy hx
       rw [cS] at hR
       simp only [List.length_cons] at hlen
       obtain ⟨e,he,hiff⟩:=vf A.in1 ⟨hp,g,d,tk,os⟩ a t c u
       refine wpAny_bind (he prog w _ _ ?_)
       cases e with
       | true =>
         rw [if_pos (hiff.mp rfl)] at hR
         wp_walk
         exact ⟨rfl,rfl,_,_,_,_,hrest,hvi',hwi',by omega,hR⟩
       | false =>
         rw [if_neg (fun q=>absurd (hiff.mpr q) Bool.false_ne_true)] at hR
         have hri:=vW A.in1 ⟨hp,g,d,tk,os⟩ a t c u prog w
         wp_walk using hri
         exact ⟨_,rfl,by simpa using hR⟩
  case fin =>
   rintro ⟨b1,b2⟩ s' ⟨hb',rfl,vs,ws,ns',ms',hz,hvi,hwi,hlen,hR⟩
   simp only at hb'
   subst hb'
   have hv:cb ns' ms'=decide (items.size < items2.size):=by
    cases hvi with
    | nil =>
      cases hwi with
      | nil =>
        simp only [List.length_nil] at hlen
        rw [jv]
        exact (decide_eq_false (by omega)).symm
      | cons c u hw =>
        simp only [List.length_nil,List.length_cons] at hlen
        rw [jn]
        exact (decide_eq_true (by omega)).symm
    | cons a t hv =>
      cases hwi with
      | nil =>
        simp only [List.length_nil,List.length_cons] at hlen
        rw [jg]
        exact (decide_eq_false (by omega)).symm
      | cons c u hw =>
        rw [List.zip_cons_cons] at hz
        cases hz
   rw [hv] at hR
   wp_walk
   exact ⟨_,rfl,by simpa [Builtin.Tuple.tupleCompareSizes] using hR⟩
  case h =>
   exact ⟨rfl,rfl,items.toList,items2.toList,ns,ms,rfl,hi,hj,by omega,h⟩
end
section
variable {prog:Program}{w:World}{A:Around}{E:Value->Shared->Prop}{s:Shared}
theorem oJ {l b:Addr}{items items2:Array Value}{ns ms:List Int}{Q:Value->Shared->Prop}(hl:IsTup s.heap l items)(hb:IsTup s.heap b items2)(hi:IntsAre items.toList ns)(hj:IntsAre items2.toList ms)
 (hu:A.units < cLine)(h:Q (.bool (cb ns ms)) s):wpAny (model prog w) A (compareOp .Lt (.ref l) (.ref b)) Q E s:=by
 obtain ⟨⟨cls,dd,data,sl⟩,ho,hc,n,hd⟩:=id hl
 obtain ⟨⟨cls2,dd2,data2,sl2⟩,ho2,hc2,n2,hd2⟩:=id hb
 simp only at hc hd hc2 hd2
 subst hc hd hc2 hd2
 exact richCompare_meets_room (op:=.Lt) ⟨_,ho,rfl⟩ ⟨_,ho2,rfl⟩ PySem.F.slot_tuple_lt PySem.F.entry_tuple_lt (PySem.F.args_tuple_lt_2 _ _) (jF l b items items2 n n2 dd dd2 sl sl2 ns ms hi hj)
  ⟨ho,ho2,show Value.bool (cb ns ms)≠Value.notImplemented∧Q (.bool (cb ns ms)) s from ⟨(fun x=>nomatch x),h⟩⟩ hu
def cZ (n d:Nat):Option Int->Nat
 | none=>d
 | some v=>if v < 0 then (v + (n:Int)).toNat else min v.toNat n
theorem yd (n d:Nat)(hd:d≤n)(o:Option Int):cZ n d o≤n:=by
 cases o with
 | none=>exact hd
 | some v =>
   show (if v < 0 then (v + (n:Int)).toNat else min v.toNat n)≤n
   by_cases hv:v < 0
   ·rw [if_pos hv]; omega
   ·rw [if_neg hv]; exact Nat.min_le_right _ _
theorem qx (v:Int)(n d:Nat):(if v < 0 then max (v + (n:Int)) 0 else min v (n:Int))=((cZ n d (some v):Nat):Int):=by
 show (if v < 0 then max (v + (n:Int)) 0 else min v (n:Int))=(((if v < 0 then (v + (n:Int)).toNat else min v.toNat n):Nat):Int)
 by_cases hv:v < 0
 ·simp only [if_pos hv]; omega
 ·simp only [if_neg hv]; omega
theorem om (lo hi:Option Int)(n:Nat):Builtin.Slice.sliceAdjust lo hi 1 (n:Int)=(((cZ n 0 lo:Nat):Int),((cZ n n hi:Nat):Int)):=by
 have h1:¬ ((1:Int) < 0):=by omega
 unfold Builtin.Slice.sliceAdjust
 simp only [h1,if_false]
 refine Prod.ext ?_ ?_
 ·cases lo with
  | none=>rfl
  | some v=>exact qx v n 0
 ·cases hi with
  | none=>rfl
  | some v=>exact qx v n n
theorem pP (i j:Nat):Builtin.Slice.slicePlaces (i:Int) (j:Int) 1=j - i:=by
 unfold Builtin.Slice.slicePlaces
 have h1:(1:Int) > 0:=by omega
 simp only [h1,if_true,Int.ediv_one]
 split <;> omega
theorem jh {v:Value}{o:Option Int}{Q:Option Int->Shared->Prop}(p:IsPart v o)(h:Q o s):wpAny (model prog w) A (Builtin.Slice.slicePartIndex v) Q E s:=by
 cases p with
 | none=>exact slicePart_none h
 | int i t=>exact slicePart_int h
theorem df {sl:Addr}{vl vu:Value}{lo hi:Option Int}{n:Nat}{Q:Int × Int × Nat->Shared->Prop}(hs:s.heap.IsSliceOf sl vl vu .none)(pl:IsPart vl lo)(pu:IsPart vu hi)
 (h:Q (((cZ n 0 lo:Nat):Int),1,cZ n n hi - cZ n 0 lo) s):wpAny (model prog w) A (Builtin.Slice.sliceApplied (.ref sl) (pure (n:Int))) Q E s:=by
 obtain ⟨os,hos,hcs,hds⟩:=id hs
 unfold Builtin.Slice.sliceApplied Builtin.Slice.sliceFields
 refine wpAny_bind (wpAny_bind (wpAny_field hos hds (x:=vl) rfl (wpAny_bind (wpAny_field hos hds (x:=vu) rfl (wpAny_bind (wpAny_field hos hds (x:=.none) rfl (wpAny_pure ?_)))))))
 refine wpAny_bind (slicePart_none ?_)
 show wpAny _ _ (if ((1:Int) == 0)=true then _ else _) _ _ s
 rw [if_neg (by decide)]
 refine wpAny_bind (jh pl (wpAny_bind (jh pu (wpAny_bind (wpAny_pure ?_)))))
 show wpAny _ _ (match Builtin.Slice.sliceAdjust lo hi 1 (n:Int) with | (lo,hi)=>pure (lo,(1:Int),Builtin.Slice.slicePlaces lo hi 1)) _ _ s
 rw [om lo hi n]
 show wpAny _ _ (pure (((cZ n 0 lo:Nat):Int),(1:Int),Builtin.Slice.slicePlaces ((cZ n 0 lo:Nat):Int) ((cZ n n hi:Nat):Int) 1)) _ _ s
 rw [pP]
 exact wpAny_pure h
theorem tY (xs:Array Value)(i k:Nat):((List.range k).filterMap fun (m:Nat)=>xs[((i:Int) + (m:Int) * 1).toNat]?).toArray=((xs.toList.drop i).take k).toArray:=by
 have e:(fun (m:Nat)=>xs[((i:Int) + (m:Int) * 1).toNat]?)=fun m=>xs[i + m]?:=by
  funext m
  have:((i:Int) + (m:Int) * 1).toNat=i + m:=by omega
  rw [this]
 rw [e]
 have:=pick_run xs i k
 rw [List.filterMap_map] at this
 have e2:((fun x=>xs[x]?) ∘ fun x=>i + x)=fun m=>xs[i + m]?:=rfl
 rw [e2] at this
 rw [this]
theorem fJ {t sl:Addr}{items:Array Value}{vl vu:Value}{lo hi:Option Int}{Q:Value->Shared->Prop}(ht:IsTup s.heap t items)(hs:s.heap.IsSliceOf sl vl vu .none)(pl:IsPart vl lo)(pu:IsPart vu hi)
 (hw:¬ (cZ items.size 0 lo=0∧cZ items.size items.size hi=items.size))
 (h:Q (.ref s.heap.objs.size) { s with heap:=s.heap.push { cls:=.type "tuple",data:=.seq ((items.toList.drop (cZ items.size 0 lo)).take (cZ items.size items.size hi - cZ items.size 0 lo)).toArray } })
 (hsz:items.size≤sizeLine):wpAny (model prog w) A (getItem (.ref t) (.ref sl)) Q E s:=by
 have htake:sizeOk (.seq ((items.toList.drop (cZ items.size 0 lo)).take (cZ items.size items.size hi - cZ items.size 0 lo)).toArray):=by
  show ((items.toList.drop (cZ items.size 0 lo)).take (cZ items.size items.size hi - cZ items.size 0 lo)).toArray.size≤sizeLine
  rw [List.size_toArray,List.length_take,List.length_drop,Array.length_toList]
  omega
 have hj:cZ items.size items.size hi≤items.size:=yd _ _ (Nat.le_refl _) hi
 obtain ⟨os,hos,hcs,hds⟩:=id hs
 have hTs:s.TypeIs (.ref sl) "slice":=⟨os,hos,hcs⟩
 unfold getItem
 try with_reducible refine wpAny_holding ?_
 first | refine wpAny_bind (wpAny_pure ?_) | skip
 refine wpAny_bind (wpAny_sequenceKey ht.typeIs (by decide) ?_)
 refine wpAny_bind (wpAny_callSpecial?_slot (name:=Str.ofString "__getitem__") ht.typeIs PyProof.Rows.slot_tuple_getitem
  (wpAny_call_entry PyProof.Rows.slot_tuple_getitem ht.typeIs entry_tuple_getitem ?_ (args_tuple_getitem _ _)))
 show wpAny _ _ (Builtin.Tuple.tupleItemsOf (.ref t) >>= _) _ _ s
 refine wpAny_bind (tupleItemsOf_ ht ?_)
 refine wpAny_bind (wpAny_typeOf hTs ?_)
 rw [if_pos (by decide)]
 refine wpAny_bind (df hs pl pu ?_)
 have hno:¬ ((((cZ items.size 0 lo:Nat):Int) == 0&&(1:Int) == 1&&(cZ items.size items.size hi - cZ items.size 0 lo) == items.size)=true):=by
  intro q
  rw [Bool.and_eq_true,Bool.and_eq_true] at q
  have q1:((cZ items.size 0 lo:Nat):Int)=0:=eq_of_beq q.1.1
  have q2:cZ items.size items.size hi - cZ items.size 0 lo=items.size:=eq_of_beq q.2
  exact hw ⟨by omega,by omega⟩
 show wpAny _ _ (if (((cZ items.size 0 lo:Nat):Int) == 0&&(1:Int) == 1&&(cZ items.size items.size hi - cZ items.size 0 lo) == items.size)=true then _ else _) _ _ s
 rw [if_neg hno,tY]
 first
  | exact wpAny_bind (m:=Builtin.Tuple.tupleExact _) (wpAny_newObj_type (wpAny_pure ⟨_,rfl,wpAny_pure h⟩) htake)
  | exact wpAny_bind (m:=Builtin.Tuple.tupleExact _) (wpAny_newObj_type (wpAny_bind (wpAny_pure (wpAny_pure ⟨_,rfl,wpAny_pure h⟩))) htake)
  | exact wpAny_bind (wpAny_bind (m:=Builtin.Tuple.tupleExact _) (wpAny_newObj_type (wpAny_pure (wpAny_pure ⟨_,rfl,wpAny_pure h⟩)) htake))
  | exact wpAny_bind (wpAny_bind (m:=Builtin.Tuple.tupleExact _) (wpAny_newObj_type (wpAny_pure ⟨_,rfl,wpAny_pure h⟩) htake))
end
end HT
namespace L2
open PySem PySem.Spec PyProof.Rows
abbrev TO:=St->Hp->(Option Int->Hp->Prop)->Prop
def PO (X:Cx)(e:Option Expr)(t:TO):Prop :=
 ∀ (pins:List (Addr × Obj))(s:Shared)(σ:St)(H:Hp)(Q:Option Int->Hp->Prop),Inv X pins σ H s->t σ H Q →
   wpAny (model X.prog X.w) X.A (evalPart e X.env) (fun u s'=>∃ o H',Inv X pins σ H' s'∧IsPart u o∧Q o H') X.xe s
def tNoPart:TO:=fun _ H Q=>Q none H
def zB (t:TE):TO:=fun σ H Q=>t σ H fun x H1=>∃ i,x = .int i∧Q (some i) H1
theorem iI {ns:List Int}:∀ {us:List Value},aI (ns.map V.int) us->IntsAre us ns:=by
 induction ns with
 | nil=>intro us r; rw [List.map_nil] at r; cases r; exact .nil
 | cons n ns ih =>
   intro us r
   rw [List.map_cons] at r
   cases r with
   | cons r1 r2 =>
     obtain ⟨t,e⟩:=r1
     subst e
     exact .cons n t (ih r2)
section
variable {X:Cx}{e:Expr}{te:TE}{lo hi:Option Expr}{tl th:TO}{pos p2:Pos}
theorem xf:PO X none tNoPart:=by
 intro pins s σ H Q I h
 rw [evalPart_none]
 exact wpAny_pure ⟨none,H,I,.none,h⟩
theorem qF (h:PE X e te):PO X (some e) (zB te):=by
 intro pins s σ H Q I hw
 rw [evalPart_some]
 refine br (h pins s σ H _ I hw) fun u s1 ⟨x,H1,I1,r1,q1⟩=>?_
 obtain ⟨i,rfl,q⟩:=q1
 obtain ⟨t,rfl⟩:=r1
 exact ⟨some i,H1,I1,.int i t,q⟩
def Bg (X:Cx)(r:V->Option Int->Option Int->Hp->VK->Prop):Prop :=
 ∀ (pins:List (Addr × Obj))(s:Shared)(σ:St)(H:Hp)(x:V)(v vl vu:Value)(lo hi:Option Int)(sl:Addr)(Q:VK),Inv X pins σ H s->aC x v->s.heap.IsSliceOf sl vl vu .none->IsPart vl lo->IsPart vu hi->r x lo hi H Q →
   ∃ T id,typeLookup (.type T) "__getitem__"=pure (some (.builtin id))∧s.TypeIs v T∧wpAny (model X.prog X.w) X.A (getItem v (.ref sl)) (EP X pins σ Q) X.xe s
def Ca (r:V->Option Int->Option Int->Hp->VK->Prop)(te:TE)(tl th:TO):TE:=fun σ H Q=>te σ H fun x H1=>tl σ H1 fun l H2=>th σ H2 fun u H3=>r x l u H3 Q
theorem tW {r:V->Option Int->Option Int->Hp->VK->Prop}(hr:Bg X r)(he:PE X e te)(hl:PO X lo tl)(hu:PO X hi th):PE X (.Subscript e (.Slice lo hi none p2) pos) (Ca r te tl th):=by
 intro pins s σ H Q I h
 refine Subscript_ (br (he pins s σ H _ I h) fun v s1 ⟨x,H1,I1,r1,q1⟩=>?_)
 refine wpAny_Slice (br (hl pins s1 σ H1 _ I1 q1) fun vl s2 ⟨l,H2,I2,pl,q2⟩=>br (hu pins s2 σ H2 _ I2 q2) fun vu s3 ⟨u,H3,I3,pu,q3⟩=>?_)
 rw [evalPart_none]
 refine wpAny_pure ?_
 have I4:Inv X pins σ H3 { s3 with heap:=s3.heap.push { cls:=.type "slice",data:=.fields #[vl,vu,.none] } }:=I3.kept (t':=s3.toks) fun b ob q=>Heap.get?_push_of_some _ q
 obtain ⟨T,id,hT,ht,hg⟩:=hr pins { s3 with heap:=s3.heap.push { cls:=.type "slice",data:=.fields #[vl,vu,.none] } } σ H3 x v vl vu l u s3.heap.objs.size Q I4 r1 (Heap.IsSliceOf.new ..) pl pu q3
 show wpAny (model X.prog X.w) X.A (subscriptTail e (.Slice lo hi none p2) v (.ref s3.heap.objs.size)) (EP X pins σ Q) X.xe { s3 with heap:=s3.heap.push { cls:=.type "slice",data:=.fields #[vl,vu,.none] } }
 exact tail_any (ops:=[.ref s3.heap.objs.size,v]) ht hT hg (by with_unfolding_all rfl)
def kH (xs:List V)(lo hi:Option Int):List V:=(xs.drop (HT.cZ xs.length 0 lo)).take (HT.cZ xs.length xs.length hi - HT.cZ xs.length 0 lo)
theorem mZ (xs:List V)(lo hi:Option Int):(kH xs lo hi).length≤xs.length:=by
 unfold kH
 rw [List.length_take,List.length_drop]
 omega
def Bb (K:PySem.W.Frag):V->Option Int->Option Int->Hp->VK->Prop:=fun x lo hi H Q=>∃ a xs,x = .ref a∧bg K H a xs ∧
 ¬ (HT.cZ xs.length 0 lo=0∧HT.cZ xs.length xs.length hi=xs.length)∧∀ p,H p=none->Q (.ref p) (upd H p (.tup (kH xs lo hi)))
theorem y8:Bg X (Bb X.K):=by
 intro pins s σ H x v vl vu lo hi sl Q I rx hs pl pu h
 obtain ⟨a,xs,rfl,hx,hw,q⟩:=h
 cases rx
 obtain ⟨its,r,ht,hz⟩:=I.tuple hx
 have hlen:its.toArray.size=xs.length:=by rw [List.size_toArray]; exact r.length.symm
 refine ⟨"tuple",_,PyProof.Rows.slot_tuple_getitem.lookup,ht.typeIs,?_⟩
 refine HT.fJ ht hs pl pu (by rw [hlen]; exact hw) ?_ (by rw [hlen]; exact hz)
 rw [hlen]
 refine ⟨.ref s.heap.objs.size,_,I.laid (t':=s.toks) (o:=.tup (kH xs lo hi)) (fun b ob q=>Heap.get?_push_of_some _ q) (Nat.le_refl _) ?_,rfl,q _ (I.hok.fresh (Nat.le_refl _))⟩
 exact ⟨Nat.le_trans (mZ xs lo hi) hz,_,(r.drop (HT.cZ xs.length 0 lo)).take (HT.cZ xs.length xs.length hi - HT.cZ xs.length 0 lo),IsTup.new _ _⟩
end
def wb (n:Nat)(i:Int):Option Nat:=if 0≤i then (if i < n then some i.toNat else none) else if -(n:Int)≤i then some (i + n).toNat else none
def pA {α:Type}(xs:List α)(i:Int):Option α:=(wb xs.length i).bind fun j=>xs[j]?
theorem qE {n:Nat}{i:Int}{j:Nat}(h:wb n i=some j):seqIndex? i n=some j∧j < n∧-(n:Int)≤i∧i < n:=by
 unfold wb at h
 by_cases h0:0≤i
 ·rw [if_pos h0] at h
  by_cases h1:i < n
  ·rw [if_pos h1] at h
   have e:i.toNat=j:=Option.some.inj h
   exact ⟨by rw [seqIndex_of h0 h1,e],by omega,by omega,h1⟩
  ·rw [if_neg h1] at h; cases h
 ·rw [if_neg h0] at h
  by_cases h1:-(n:Int)≤i
  ·rw [if_pos h1] at h
   have e:(i + n).toNat=j:=Option.some.inj h
   exact ⟨by rw [seqIndex_neg (by omega) h1,e],by omega,h1,by omega⟩
  ·rw [if_neg h1] at h; cases h
theorem qS {α:Type}{xs:List α}{i:Int}{v:α}(h:pA xs i=some v):∃ j,seqIndex? i xs.length=some j∧xs[j]?=some v∧j < xs.length∧-(xs.length:Int)≤i∧i < xs.length:=by
 unfold pA at h
 cases e:wb xs.length i with
 | none=>rw [e] at h; cases h
 | some j =>
   rw [e] at h
   obtain ⟨h1,h2,h3,h4⟩:=qE e
   exact ⟨j,h1,h,h2,h3,h4⟩
theorem hU {α:Type}{xs:List α}{j:Nat}{v:α}(h:xs[j]?=some v):pA xs (j:Int)=some v:=by
 have hj:j < xs.length:=(List.getElem?_eq_some_iff.mp h).1
 have e:wb xs.length (j:Int)=some j:=by
  unfold wb
  rw [if_pos (by omega),if_pos (by omega)]; simp
 unfold pA; rw [e]; exact h
def xB (b:Expr):Prop:=∀ o i,subscripted b false o i=operate [o,i] (getItem o i)
def zZ (X:Cx)(r:R2):Prop :=
 ∀ (value slice:Expr)(pins:List (Addr × Obj))(s:Shared)(σ:St)(H:Hp)(x y:V)(v u:Value)(Q:VK),Inv X pins σ H s->aC x v->aC y u->r x y H Q →
   subscripted slice false v u=operate [v,u] (getItem v u)->wpAny (model X.prog X.w) X.A (subscriptTail value slice v u) (EP X pins σ Q) X.xe s
def AV (X:Cx)(id:String)(r:V->List V->Hp->VK->Prop):Prop :=
 ∀ (pins:List (Addr × Obj))(s:Shared)(σ:St)(H:Hp)(x:V)(xs:List V)(v:Value)(us:List Value)(Q:VK),Inv X pins σ H s->aC x v->aI xs us->r x xs H Q →
   wpAny (model X.prog X.w) X.A (call (.builtin id) (v :: us)) (EP X pins σ Q) X.xe s
section
variable {X:Cx}{a b:Expr}{ta tb:TE}{pos:Pos}
theorem aK {r:R2}(hr:zZ X r)(ha:PE X a ta)(hb:PE X b tb)(hs:xB b):PE X (.Subscript a b pos) (n5 r ta tb):=by
 intro pins s σ H Q I h
 exact Subscript_ (yE ha hb I h fun v u s2 x y H2 I2 rx ry q=>hr a b pins s2 σ H2 x y v u Q I2 rx ry q (hs _ _))
def Am (K:PySem.W.Frag):R2:=fun x y H Q=>∃ p xs i v,x = .ref p∧y = .int i∧a7 K H p xs∧pA xs i=some v∧Q v H
def Ag (K:PySem.W.Frag):R2:=fun x y H Q=>∃ p xs i v,x = .ref p∧y = .int i∧bg K H p xs∧pA xs i=some v∧Q v H
theorem bc:zZ X (Am X.K):=by
 intro value slice pins s σ H x y v u Q I rx ry h hs
 obtain ⟨p,xs,i,z,rfl,rfl,hq,he,q⟩:=h
 cases rx
 obtain ⟨t,rfl⟩:=ry
 obtain ⟨its,r,pl,hz⟩:=I.list hq
 obtain ⟨j,h1,h2,h3,h4,h5⟩:=qS he
 obtain ⟨w,ew,rw'⟩:=r.get h2
 have hl:=r.length
 have hn:=iT
 have fin:EP X pins σ Q w s:=⟨z,H,I,rw',q⟩
 by_cases h0:0≤i
 ·have hj:i.toNat=j:=by
   rw [seqIndex_of h0 h5] at h1
   exact Option.some.inj h1
  exact item_listR pl.isList h0 (by omega) (by rw [hj]; simpa using ew) fin hs
 ·have hj:(i + (its.toArray.size:Int)).toNat=j:=by
   rw [seqIndex_neg (by omega) h4] at h1
   rw [List.size_toArray,← hl]
   exact Option.some.inj h1
  exact subscriptTail_builtinR (x:=w) pl.isList.typeIs slot_list_getitem.lookup
   (wpAny_getItem_list_neg (Q:=fun r s'=>r=w∧EP X pins σ Q r s') pl.isList (by omega) (by rw [List.size_toArray] <;> omega) (by omega) (by rw [hj]; simpa using ew) ⟨rfl,fin⟩) hs
theorem aS:zZ X (Ag X.K):=by
 intro value slice pins s σ H x y v u Q I rx ry h hs
 obtain ⟨p,xs,i,z,rfl,rfl,hq,he,q⟩:=h
 cases rx
 obtain ⟨t,rfl⟩:=ry
 obtain ⟨its,r,pl,hz⟩:=I.tuple hq
 obtain ⟨j,h1,h2,h3,h4,h5⟩:=qS he
 obtain ⟨w,ew,rw'⟩:=r.get h2
 have hl:=r.length
 have hn:=iT
 have fin:EP X pins σ Q w s:=⟨z,H,I,rw',q⟩
 exact subscriptTail_builtinR (x:=w) pl.typeIs slot_tuple_getitem.lookup
  (getItem_tuple (j:=j) (Q:=fun r s'=>r=w∧EP X pins σ Q r s') pl (by omega) (by omega) (by rw [List.size_toArray,← hl]; exact h1) (by simpa using ew) ⟨rfl,fin⟩) hs
theorem ph (its:List Value)(n j:Nat)(u:Value):Obj.mapSeq (·.setIfInBounds j u) { cls:=.type "list",data:=.seq its.toArray n }={ cls:=.type "list",data:=.seq (its.set j u).toArray n }:=by
 simp [Obj.mapSeq]
theorem Inv.lst {pins:List (Addr × Obj)}{σ:St}{H:Hp}{s:Shared}{p:Addr}{xs:List V}(I:Inv X pins σ H s)(h:H p=some (.lst xs)):
 ∃ (its:List Value)(n:Nat),aI xs its∧s.heap.get? p=some { cls:=.type "list",data:=.seq its.toArray n }∧xs.length≤sizeLine:=by
 obtain ⟨z,its,n,r,e⟩:=I.hok p _ h
 exact ⟨its,n,r,e,z⟩
theorem Inv.lstUpd {pins:List (Addr × Obj)}{σ:St}{H:Hp}{s:Shared}{p:Addr}{xs ys:List V}{its its':List Value}{n n':Nat}{f:Obj->Obj}(I:Inv X pins σ H s)(h:H p=some (.lst xs))
 (ho:s.heap.get? p=some { cls:=.type "list",data:=.seq its.toArray n })(hf:f { cls:=.type "list",data:=.seq its.toArray n }={ cls:=.type "list",data:=.seq its'.toArray n' })(r:aI ys its')(hz:ys.length≤sizeLine)(t:Nat):
 Inv X pins σ (upd H p (.lst ys)) { s with heap:=s.heap.update p f,toks:=t }:=by
 have e:(s.heap.update p f).get? p=some { cls:=.type "list",data:=.seq its'.toArray n' }:=by
  rw [Heap.get?_update_self f ho (by rw [hf] <;> rfl),hf]
 refine I.write (x:=p) (e:=p) (by rw [h]; trivial) (.inl rfl) (fun b u hb q=>(Heap.get?_update_other _ _ (Ne.symm hb)).trans q) ⟨_,e⟩ ?_
 exact ⟨hz,its',n',r,e⟩
def rSetL:V->V->V->Hp->(Hp->Prop)->Prop:=fun o i v H Q=>∃ p xs k j,o = .ref p∧i = .int k∧H p=some (.lst xs)∧wb xs.length k=some j∧Q (upd H p (.lst (xs.set j v)))
theorem fL:Ak X rSetL:=by
 intro pins s σ H o i v ov iv u Q I ro ri rv h
 obtain ⟨p,xs,k,j,rfl,rfl,hp,hj,q⟩:=h
 cases ro
 obtain ⟨t,rfl⟩:=ri
 obtain ⟨its,n,r,ho,hz⟩:=I.lst hp
 obtain ⟨h1,h2,h3,h4⟩:=qE hj
 have hl:=r.length
 have hn:=iT
 have I':Inv X pins σ (upd H p (.lst (xs.set j v))) { s with heap:=s.heap.update p (Obj.mapSeq (·.setIfInBounds j u)) }:=
  I.lstUpd hp ho (ph its n j u) (r.set rv j) (by rw [List.length_set]; exact hz) s.toks
 by_cases h0:0≤k
 ·have hk:k.toNat=j:=by
   rw [seqIndex_of h0 h4] at h1
   exact Option.some.inj h1
  exact PySem.W.ki_setAt ho h0 (by omega) (by rw [List.size_toArray,← hl]; exact h4) (by rw [hk]; exact ⟨_,I',q⟩)
 ·have hk:(k + (its.toArray.size:Int)).toNat=j:=by
   rw [seqIndex_neg (by omega) h3] at h1
   rw [List.size_toArray,← hl]
   exact Option.some.inj h1
  exact PySem.W.ki_setBack ho (by omega) (by rw [List.size_toArray,← hl]; exact h3) (by omega) (by rw [hk]; exact ⟨_,I',q⟩)
def gL:V->Bool
 | .non=>true
 | .bl _=>true
 | .int _=>true
 | .str _=>true
 | _=>false
def xJ:V->V->Bool
 | .non,.non=>true
 | .bl a,.bl b=>a == b
 | .bl a,.int b=>(if a then 1 else 0) == b
 | .int a,.bl b=>a == (if b then 1 else 0)
 | .int a,.int b=>a == b
 | .str a,.str b=>a == b
 | _,_=>false
theorem zc {A:Around}{s:Shared}{y x:V}{u v:Value}(ry:aC y u)(rx:aC x v)(fy:gL y=true)(fx:gL x=true):SeqAt.EqAt A s u v (xJ y x):=by
 cases y with
 | non =>
   cases ry
   cases x with
   | non=>cases rx; exact SeqAt.EqAt.same _
   | bl b=>cases rx; exact SeqAt.EqAt.none_bool b
   | int b=>obtain ⟨t,rfl⟩:=rx; exact SeqAt.EqAt.none_int b t
   | str b=>obtain ⟨t,rfl⟩:=rx; exact SeqAt.EqAt.none_str b t
   | _=>exact absurd (show false=true from fx) Bool.false_ne_true
 | bl a =>
   cases ry
   cases x with
   | non=>cases rx; exact SeqAt.EqAt.bool_none a
   | bl b=>cases rx; exact SeqAt.EqAt.bool_bool a b
   | int b=>obtain ⟨t,rfl⟩:=rx; exact SeqAt.EqAt.bool_int a b t
   | str b=>obtain ⟨t,rfl⟩:=rx; exact SeqAt.EqAt.bool_str a b t
   | _=>exact absurd (show false=true from fx) Bool.false_ne_true
 | int a =>
   obtain ⟨t',rfl⟩:=ry
   cases x with
   | non=>cases rx; exact SeqAt.EqAt.int_none a t'
   | bl b=>cases rx; exact SeqAt.EqAt.int_bool a t' b
   | int b=>obtain ⟨t,rfl⟩:=rx; exact SeqAt.EqAt.int_int a t' b t
   | str b=>obtain ⟨t,rfl⟩:=rx; exact SeqAt.EqAt.int_str a t' b t
   | _=>exact absurd (show false=true from fx) Bool.false_ne_true
 | str a =>
   obtain ⟨t',rfl⟩:=ry
   cases x with
   | non=>cases rx; exact SeqAt.EqAt.str_none a t'
   | bl b=>cases rx; exact SeqAt.EqAt.str_bool a t' b
   | int b=>obtain ⟨t,rfl⟩:=rx; exact SeqAt.EqAt.str_int a t' b t
   | str b=>obtain ⟨t,rfl⟩:=rx; exact SeqAt.EqAt.str_str a t' b t
   | _=>exact absurd (show false=true from fx) Bool.false_ne_true
 | _=>exact absurd (show false=true from fy) Bool.false_ne_true
def wB (x:V)(u:Value):Bool:=match u with
 | .none=>xJ .non x
 | .bool b=>xJ (.bl b) x
 | .int i _=>xJ (.int i) x
 | .str z _=>xJ (.str z) x
 | _=>false
theorem uY {x y:V}{u:Value}(r:aC y u)(f:gL y=true):wB x u=xJ y x:=by
 cases y with
 | non=>cases r; rfl
 | bl b=>cases r; rfl
 | int i=>obtain ⟨t,rfl⟩:=r; rfl
 | str z=>obtain ⟨t,rfl⟩:=r; rfl
 | _=>exact absurd (show false=true from f) Bool.false_ne_true
theorem lh {x:V}:∀ {xs:List V}{us:List Value},aI xs us->xs.all gL=true->us.any (wB x)=xs.any fun y=>xJ y x
 | _,_,.nil,_=>rfl
 | y :: xs,u :: us,.cons r t,f=>by
   rw [List.all_cons,Bool.and_eq_true] at f
   rw [List.any_cons,List.any_cons,uY r f.1,lh t f.2]
theorem jd {A:Around}{s:Shared}{x:V}{v:Value}(rx:aC x v)(fx:gL x=true):∀ {xs:List V}{us:List Value},aI xs us->xs.all gL=true->∀ u∈us,SeqAt.EqAt A s u v (wB x u)
 | _,_,.nil,_=>fun u hu=>by cases hu
 | y :: xs,u :: us,.cons r t,f=>fun u' hu=>by
   rw [List.all_cons,Bool.and_eq_true] at f
   rcases List.mem_cons.mp hu with rfl | hu
   ·rw [uY r f.1]; exact zc r rx f.1 fx
   ·exact jd rx fx t f.2 u' hu
def zx (x:V)(xs:List V):Bool:=xs.any fun y=>xJ y x
def B8 (K:PySem.W.Frag)(neg:Bool):R2:=fun x y H Q=>∃ p xs,y = .ref p∧(a7 K H p xs∨bg K H p xs)∧gL x=true∧xs.all gL=true∧Q (.bl (if neg then !zx x xs else zx x xs)) H
theorem lI:dz X (compareOp .NotIn) (B8 X.K true):=by
 intro pins s σ H x y v u Q I rx ry h
 obtain ⟨p,xs,rfl,hq,fx,fs,q⟩:=h
 cases ry
 rcases hq with hq | hq
 ·obtain ⟨its,r,pl,hz⟩:=I.list hq
  refine SeqAt.notIn_listAt (wB x) pl.isList (fun w hw=>jd rx fx r fs w (by simpa using hw)) ⟨.bl _,H,I,rfl,?_⟩
  rw [show its.toArray.any (wB x)=its.any (wB x) by simp,lh r fs]
  exact q
 ·obtain ⟨its,r,pl,hz⟩:=I.tuple hq
  refine SeqAt.notIn_tupleAt (wB x) pl (fun w hw=>jd rx fx r fs w (by simpa using hw)) ⟨.bl _,H,I,rfl,?_⟩
  rw [show its.toArray.any (wB x)=its.any (wB x) by simp,lh r fs]
  exact q
theorem bD:cy X (.builtin "len") (fun xs H Q=>∃ p ys,xs=[.ref p]∧(a7 X.K H p ys∨bg X.K H p ys)∧Q (.int ys.length) H):=by
 intro pins s σ H xs us Q I r h
 obtain ⟨p,ys,rfl,hq,q⟩:=h
 obtain ⟨u,rfl,rx⟩:=c0 r
 cases rx
 have hn:=iT
 rcases hq with hq | hq
 ·obtain ⟨its,r',pl,hz⟩:=I.list hq
  have hlen:=r'.length
  exact Calls.call_len_list pl.isList (by simp only [List.size_toArray] <;> omega) ⟨.int ys.length,H,I.tok _,⟨s.toks + 1,by rw [List.size_toArray,hlen]⟩,q⟩
 ·obtain ⟨its,r',pl,hz⟩:=I.tuple hq
  have hlen:=r'.length
  exact len_tuple pl (by simp only [List.size_toArray] <;> omega) ⟨.int ys.length,H,I.tok _,⟨s.toks + 1,by rw [List.size_toArray,hlen]⟩,q⟩
theorem jG:cy X (.type "tuple") (fun xs H Q=>∃ p ys,xs=[.ref p]∧((a7 X.K H p ys∧∀ l,H l=none->Q (.ref l) (upd H l (.tup ys)))∨(bg X.K H p ys∧Q (.ref p) H))):=by
 intro pins s σ H xs us Q I r h
 obtain ⟨p,ys,rfl,h⟩:=h
 obtain ⟨u,rfl,rx⟩:=c0 r
 cases rx
 rcases h with ⟨hq,q⟩ | ⟨hq,q⟩
 ·obtain ⟨its,r',pl,hz⟩:=I.list hq
  have hlen:=r'.length
  refine call_tuple_list pl.isList (fun h' kp=>?_) (by simp only [List.size_toArray] <;> omega)
  have I1:Inv X pins σ H { s with heap:=h' }:=I.kept (t':=s.toks) kp
  have I2:Inv X pins σ (upd H h'.objs.size (.tup ys)) { s with heap:=h'.push { cls:=.type "tuple",data:=.seq its.toArray } }:=
   I1.laid (t':=s.toks) (fun b o e=>Heap.get?_push_of_some _ e) (Nat.le_refl _) (show a8 X.prog X.w _ _ _ (.tup ys) from ⟨hz,its,r',IsTup.new _ _⟩)
  exact ⟨.ref h'.objs.size,_,I2,rfl,q _ (I1.hok.fresh (Nat.le_refl _))⟩
 ·obtain ⟨its,r',pl,hz⟩:=I.tuple hq
  exact call_tuple_same pl ⟨.ref p,H,I,rfl,q⟩
def BZ (K:PySem.W.Frag)(T:String)(x:V)(H:Hp):Prop:=match x with
 | .str _=>T="str"
 | .int _=>T="int"
 | .ref p=>(T="list"∧∃ xs,a7 K H p xs)∨(T="tuple"∧∃ o,K.lookup p=some o∧o.cls = .type "tuple"∧o.dict=none) ∨
  (T="dict"∧((∃ kvs,H p=some (.dK kvs))∨∃ kvs,H p=some (.dT kvs)))∨(T="set"∧∃ S n,H p=some (.set S n))
 | _=>False
theorem yf {pins:List (Addr × Obj)}{σ:St}{H:Hp}{s:Shared}{T:String}{x:V}{v:Value}(I:Inv X pins σ H s)(r:aC x v)(ty:BZ X.K T x H):
 s.TypeIs v T∧∀ a,v = .ref a->∃ ob,s.heap.get? a=some ob∧ob.dict=none:=by
 cases x with
 | str z =>
   obtain ⟨t,rfl⟩:=r
   cases (show T="str" from ty)
   exact ⟨typeIs_str s z t,fun _ e=>nomatch e⟩
 | int i =>
   obtain ⟨t,rfl⟩:=r
   cases (show T="int" from ty)
   exact ⟨typeIs_int s i t,fun _ e=>nomatch e⟩
 | ref p =>
   cases r
   rcases ty with ⟨rfl,xs,hq⟩ | ⟨rfl,o,hk,hc,hd⟩ | ⟨rfl,hk⟩ | ⟨rfl,S,n,hk⟩
   ·obtain ⟨its,_,pl,_⟩:=I.list hq
    refine ⟨pl.isList.typeIs,fun a e=>?_⟩
    cases e
    obtain ⟨o,n,e,c,hd,_⟩:=pl
    exact ⟨o,e,hd⟩
   ·refine ⟨⟨o,I.kIn p o hk,hc⟩,fun a e=>?_⟩
    cases e
    exact ⟨o,I.kIn _ o hk,hd⟩
   ·have z:∃ o,s.heap.get? p=some o∧o.ExactDict:=by
     rcases hk with ⟨kvs,hk⟩ | ⟨kvs,hk⟩
     ·obtain ⟨_,_,_,_,o,_,_,e,ex,_⟩:=I.hok p _ hk
      exact ⟨o,e,ex⟩
     ·obtain ⟨_,_,_,_,o,_,_,e,ex,_⟩:=I.hok p _ hk
      exact ⟨o,e,ex⟩
    obtain ⟨o,e,ex⟩:=z
    refine ⟨⟨o,e,ex.1⟩,fun a e2=>?_⟩
    cases e2
    exact ⟨o,e,ex.2.1⟩
   ·obtain ⟨o,_,_,_,e,ex,_⟩:=I.hok p _ hk
    refine ⟨⟨o,e,ex.1⟩,fun a e2=>?_⟩
    cases e2
    exact ⟨o,e,ex.2.1⟩
 | _=>exact False.elim ty
def Bo (K:PySem.W.Frag)(T:String)(r:V->List V->Hp->VK->Prop)(to:TE)(t:TA):TE:=fun σ H Q=>to σ H fun x H1=>BZ K T x H1∧t σ H1 fun xs H2=>r x xs H2 Q
variable {o e:Expr}{es:List Expr}{to:TE}{t:TA}{name:Str}{apos cpos:Pos}{T id:String}{r:V->List V->Hp->VK->Prop}
theorem eJ (pa:PlainAttrs T)(slot:Slot T name id)(hty:typeOf (.builtin id)=pure (.type "method_descriptor"))(hm:AV X id r)(ho:PE X o to)(ha:PA X (e :: es) t)
 (hbase:attributeBase o name X.env (eval o X.env)=eval o X.env:=by rfl)
 (hfew:((backTo cpos (starEach (e :: es) X.env)).all (fun x=>!x.1)&&(backToKw cpos (keywordEach [] X.env)).all (fun x=>x.1.isSome)
  && decide ((e :: es).length + ([]:List Keyword).length + (if ([]:List Keyword).isEmpty then 0 else 1) < 30))=true:=by rfl)
 (hline:(apos.endLine == cpos.line)=true:=by rfl)(hs:starEach (e :: es) X.env=(false,eval e X.env):: starEach es X.env:=by rfl)(hplain:(backTo cpos (starEach es X.env)).any (·.1)=false:=by rfl):
 PE X (.Call (.Attribute o name apos) (e :: es) [] cpos) (Bo X.K T r to t):=by
 intro pins s σ H Q I h
 refine wpAny_Call_method_late hbase hfew hline rfl (br (ho pins s σ H _ I h) fun v s1 ⟨x,H1,I1,r1,ty,q1⟩=>?_)
 obtain ⟨h1,h2⟩:=yf I1 r1 ty
 refine ⟨T,id,pa,slot,hty,h1,h2,?_⟩
 have hA:=ha cpos pins s1 σ H1 _ I1 q1
 rw [hs] at hA ⊢
 refine Calls.callWith_builtin (by show (false || (backTo cpos (starEach es X.env)).any (·.1))=false; rw [hplain] <;> rfl) (Calls.evalArgs_plain ?_)
 exact br hA fun us s2 ⟨vs,H2,I2,r2,q2⟩=>hm pins s2 σ H2 x vs v us Q I2 r1 r2 q2
/- xs.append(e),list.index on a module's tuple .. are AV facts of 06m -/
end
def B6 (X:Cx)(id:String)(r:V->List V->Hp->VK->Prop):Prop :=
 ∀ (pins:List (Addr × Obj))(s:Shared)(σ:St)(H:Hp)(x:V)(xs:List V)(v:Value)(us:List Value)(Q:VK),Inv X pins σ H s->aC x v->aI xs us->r x xs H Q →
   wpAny (model X.prog X.w) X.A (call (.builtin id) (v :: us)) (EP X pins σ Q) X.xe s
theorem aI.one:∀ {x:V}{us:List Value},aI [x] us->∃ u,us=[u]∧aC x u
 | _,_,.cons r .nil=>⟨_,rfl,r⟩
section
variable {X:Cx}{pins:List (Addr × Obj)}{σ:St}{H:Hp}{s:Shared}{l b:Addr}{xs ys zs:List V}
theorem Inv.lset {its its':List Value}{n:Nat}{f:Array Value->Array Value}{t':Nat}(I:Inv X pins σ H s)(hH:H l=some (.lst xs))
 (e:s.heap.get? l=some { cls:=.type "list",data:=.seq its.toArray n })(hf:f its.toArray=its'.toArray)(hv:aI ys its')(hz:ys.length≤sizeLine):
 Inv X pins σ (upd H l (.lst ys)) { s with heap:=s.heap.update l (Obj.mapSeq f),toks:=t' }:=by
 have q:=PySem.IsL.update e f
 rw [hf] at q
 refine I.write (x:=l) (e:=l) (by rw [hH]; exact trivial) (.inl rfl) (fun b' u hb hu=>(Heap.get?_update_other s.heap (Obj.mapSeq f) (Ne.symm hb)).trans hu) ⟨_,q⟩ ?_
 exact ⟨hz,its',_,hv,q⟩
theorem Inv.lnew {its:List Value}{t':Nat}(I:Inv X pins σ H s)(hv:aI ys its)(hz:ys.length≤sizeLine):
 Inv X pins σ (upd H s.heap.objs.size (.lst ys)) { s with heap:=s.heap.push { cls:=.type "list",data:=.seq its.toArray },toks:=t' }:=
 I.laid (fun _ _ q=>Heap.get?_push_of_some _ q) (Nat.le_refl _) ⟨hz,its,0,hv,Heap.get?_push_size _ rfl⟩
theorem Inv.fresh (I:Inv X pins σ H s):H s.heap.objs.size=none:=I.hok.fresh (Nat.le_refl _)
theorem Inv.lstM (I:Inv X pins σ H s)(hH:H l=some (.lst xs)):xs.length≤sizeLine∧∃ (its:List Value)(n:Nat),aI xs its∧xs.length=its.length∧s.heap.get? l=some { cls:=.type "list",data:=.seq its.toArray n }:=by
 obtain ⟨z,its,n,r,e⟩:=I.hok l _ hH
 exact ⟨z,its,n,r,r.length,e⟩
end
section
variable {X:Cx}
def rAppend:V->List V->Hp->VK->Prop:=fun x vs H Q=>∃ l xs y,x = .ref l∧vs=[y]∧H l=some (.lst xs)∧xs.length < sizeLine∧Q .non (upd H l (.lst (xs++[y])))
theorem de:B6 X "list.append" rAppend:=by
 intro pins s σ H x vs v us Q I rx rv h
 obtain ⟨l,xs,y,rfl,rfl,hH,hz,q⟩:=h
 cases rx
 obtain ⟨u,rfl,ru⟩:=rv.one
 obtain ⟨z,its,n,r,hl,e⟩:=I.lstM hH
 refine call_meets F.slot_list_append ⟨_,e,rfl⟩ F.entry_list_append (F.args_list_append_2 _ _) (PySem.list_append l its.toArray n u (by rw [List.size_toArray]; omega)) ⟨e,?_⟩
 refine ⟨.non,_,I.lset (its':=its++[u]) hH e (by simp) (r.append (.cons ru .nil)) ?_,rfl,q⟩
 rw [List.length_append,List.length_singleton]
 omega
def rCat:R2:=fun x y H Q=>∃ l b xs zs,x = .ref l∧y = .ref b∧H l=some (.lst xs)∧H b=some (.lst zs)∧xs.length + zs.length≤sizeLine∧∀ p,H p=none->Q (.ref p) (upd H p (.lst (xs++zs)))
theorem ky:dz X (binaryOp .Add) rCat:=by
 intro pins s σ H x y v u Q I rx ry h
 obtain ⟨l,b,xs,zs,rfl,rfl,hH,hB,hz,q⟩:=h
 cases rx
 cases ry
 obtain ⟨z,its,n,r,hl,e⟩:=I.lstM hH
 obtain ⟨z2,its2,n2,r2,hl2,e2⟩:=I.lstM hB
 refine PySem.P.add_list e e2 ?_ (by rw [List.size_toArray,List.size_toArray]; omega)
 have ea:its.toArray++its2.toArray=(its++its2).toArray:=by simp
 rw [ea]
 exact ⟨.ref _,_,I.lnew (t':=s.toks) (r.append r2) (by rw [List.length_append]; omega),rfl,q _ I.fresh⟩
end
end L2
namespace Att
open PySem PySem.W PySem.Calls PyProof.Rows
theorem gW {P:Params}{h:Heap}:∀ (ns:List Int)(vs:List Value),WellAll P h vs (ns.map WData.int)->IntsAre vs ns:=by
 intro ns
 induction ns with
 | nil =>
   intro vs w
   rw [List.map_nil] at w
   cases w
   exact .nil
 | cons n ns ih =>
   intro vs w
   rw [List.map_cons] at w
   cases w with
   | cons a b =>
     cases a
     exact .cons _ _ (ih _ b)
theorem tE {l:OpenLaw}{n:Nat}(hn:l.most=some n){P:Params}{h:Heap}{args:List WData}{vals:List Value}
 (hpre:l.row.toRowW.claim.pre args=true)(hwl:WellAll P h vals args):
 ∃ a vs ns,vals=[Value.ref a]∧args=[WData.list (ns.map WData.int)]∧h.get? a=some { cls:=.type "list",data:=.seq vs.toArray }∧IntsAre vs ns∧ns.length≤n:=by
 have hsh:WShape.hasAll [] args [.list .int]=true:=(pre_splitW hpre).1
 have hc:l.pre.holds [] { args:=args }=true:=(pre_splitW hpre).2
 obtain ⟨d,r,rfl,h1,h2⟩:=hasAllW_cons hsh
 obtain rfl:=hasAllW_nil h2
 obtain ⟨xs,rfl,h3⟩:=hasW_list h1
 obtain ⟨ns,rfl⟩:=items_int h3
 have hlen:ns.length≤n:=by
  unfold OpenLaw.pre at hc
  have h4:(WTm.not (.lt (.lit (.int (n:Int))) (.len (.arg 0)))).holds [] { args:=[.list (ns.map .int)] }=true:=by
   have h4:=(holds_andW hc).1
   rw [hn] at h4
   exact h4
  have h5:=condW_of h4 (w_not (w_lt w_lit (w_len_list (w_arg rfl))))
  rw [List.length_map] at h5
  refine Nat.le_of_not_lt fun q=>?_
  have q':(n:Int) < ((ns.length:Nat):Int):=by omega
  first
   | (rw [decide_eq_true q'] at h5; exact absurd h5 (by decide))
   | (simp at h5; omega)
 cases hwl with
 | cons w1 w2 =>
   cases w2
   cases w1 with
   | list ho hall=>exact ⟨_,_,ns,rfl,rfl,ho,gW ns _ hall,hlen⟩
theorem rF (l:OpenLaw)(args:List WData):l.row.toRowW.claim.post args (.bool true) args=true :=
 postW_of (r:=l.row.toRowW) (X:=(true == true))
  (show WShape.has [] (.bool true) .bool=true by first | rfl | decide | simp [WShape.has,WShape.arms,WShape.armsAll])
  (show (WTm.eq .res (.lit (.bool true))).value [] { args:=args,res:=some (.bool true),after:=args }=some (.bool (true == true)) from w_eq_bool (w_res rfl) w_lit) rfl
theorem me {l:OpenLaw}{n:Nat}{q:Program}{loose:List Str}{XP:(Str->Option Value)->Heap->Prop}{YP:World->Heap->Prop}{d:DefRec}
 (hn:l.most=some n)(hdf:d.params.defaults=[])
 (call:∀ (w:World)(s₀ s₁:Shared)(mg mb:Str->Option Value)(fa:Addr)(o:Obj)(pm cd doc:Value)(a:Addr)(vs:List Value)(ns:List Int),
  Ground q loose [] XP w s₀ mg mb s₁.heap->YP w s₁.heap →
  s₁.heap.get? fa=some o->o.data = .func (docDef d.name d.params d.body d.scope pm cd doc)->s₁.heap.CodeRec cd d.name->mg d.name=some (.ref fa) →
  s₁.heap.get? a=some { cls:=.type "list",data:=.seq vs.toArray }->IntsAre vs ns->ns.length≤n->s₁.gens = #[] →
  codeAny (model l.prog w) callerA (.call (.ref fa) ⟨[.ref a],[]⟩) (fun r s'=>r = .ok (.ret (.bool true))∧OldK s₁.heap s'.heap∧s'.os=s₁.os∧AllBare s'.gens) s₁):
 WalkO q loose XP YP l.row.toRowW d [] (fun f vs=>PySem.call f vs):=by
 intro w s₀ s₁ mg mb G Y fa o pm cd doc dV kV ho hd hcd hD hmg hg args vals as hpre hlay hrd hwl hlo
 obtain rfl:dV = .none:=Dflts.none hD hdf
 obtain rfl:kV = .none:=Dflts.noKw hD
 obtain ⟨a,vs,ns,rfl,rfl,hobj,hints,hlen⟩:=tE hn hpre hwl
 refine enter_call (codeAny_mono (call w s₀ s₁ mg mb fa o pm cd doc a vs ns G Y ho (fd_plain hd) hcd hmg hobj hints hlen hg) fun r s' hq=>?_)
 obtain ⟨rfl,h2,h3,h4⟩:=hq
 exact ⟨.inl ⟨.bool true,.bool true,[],rfl,fun _=>rfl,.bool true,rF l _,fun _=>⟨List.Pairwise.nil,fun _ hm=>(nomatch hm)⟩⟩,h2,h3,h4⟩
end Att
namespace L2
open PySem PySem.Spec PyProof.Rows
theorem kj:∀ {vs:List Value}{ns:List Int},IntsAre vs ns->aI (ns.map V.int) vs
 | _,_,.nil=>.nil
 | _,_,.cons n t h=>.cons ⟨t,rfl⟩ (kj h)
structure Fun (K:PySem.W.Frag)(x qual:Str)(st:Stmt)(f:Addr)(fd:FuncData):Prop where
 ex:∃ (oc:Value)(od:Option Addr)(kV doc pm:Value)(an:Option Addr)(cdv ct:Value)(osl:Array (Option Value)),
  fd=PySem.W.fnOf x qual (cC st) (bV st) (ao st) .none kV doc pm an cdv ct∧K.lookup f=some ⟨oc,od,.func fd,osl⟩∧PySem.W.codeIn K cdv qual=true
 kp:PySem.W.keepIn K (.ref f)=true
section
variable {P:Program}{w:World}{K:PySem.W.Frag}{mg:Str->Option Value}{base:Heap}
theorem Fun.binds {x qual:Str}{st:Stmt}{f:Addr}{fd:FuncData}{ps:List Str}(F:Fun K x qual st f fd)
 (h:∀ (kV doc pm:Value)(an:Option Addr)(cdv ct:Value)(us:List Value),us.length=ps.length->bindArgs (PySem.W.fnOf x qual (cC st) (bV st) (ao st) .none kV doc pm an cdv ct) ⟨us,[]⟩=pure (ps.zip us)):ay K fd ps []:=by
 obtain ⟨oc,od,kV,doc,pm,an,cdv,ct,osl,rfl,lk,hcd⟩:=F.ex
 exact .all (h kV doc pm an cdv ct)
theorem zq {x qual:Str}{st:Stmt}{f:Addr}{oc:Value}{od an:Option Addr}{osl:Array (Option Value)}{kV doc pm cdv ct:Value}(l:K.lookup f=some ⟨oc,od,.func (PySem.W.fnOf x qual (cC st) (bV st) (ao st) .none kV doc pm an cdv ct),osl⟩)
 (c:PySem.W.codeIn K cdv qual=true)(k:PySem.W.keepIn K (.ref f)=true):Fun K x qual st f (PySem.W.fnOf x qual (cC st) (bV st) (ao st) .none kV doc pm an cdv ct):=⟨⟨oc,od,kV,doc,pm,an,cdv,ct,osl,rfl,l,c⟩,k⟩
end
theorem sG {n:Nat}(h:n≤1000):n < sizeLine:=Nat.lt_of_le_of_lt h (by decide)
section
variable {X:Cx}
theorem pv (i:Nat){x:Str}{pos:Pos}(hN:X.N[i]?=some x:=by rfl)(hv:AS X.env.scope x:=by first | exact Or.inl rfl | exact Or.inr (Or.inl rfl) | exact Or.inr (Or.inr rfl))(hd:(x == ("__debug__":Str))=false:=by decide)
 (hcd:(x == ("__classdict__":Str))=false:=by decide):PE X (.Name x pos) (dJ i):=yK hN hv hd hcd
end
theorem cq {A B:Prop}(h:B):if false=true then A else B:=by
 rw [if_neg Bool.false_ne_true]
 exact h
theorem cf {A B:Prop}(h:A):if true=true then A else B:=by
 rw [if_pos rfl]
 exact h
theorem bF {c A B:Prop} [Decidable c](h1:c->A)(h2:¬ c->B):if c then A else B:=by
 by_cases h:c
 ·rw [if_pos h]
  exact h1 h
 ·rw [if_neg h]
  exact h2 h
def aA (H H':Hp):Prop:=∀ b o,H b=some o->H' b=some o
theorem aA.refl (H:Hp):aA H H:=fun _ _ h=>h
theorem aA.trans {H H1 H2:Hp}(a:aA H H1)(b:aA H1 H2):aA H H2:=fun c o h=>b c o (a c o h)
theorem dn {P:Program}{w:World}{H:Hp}{h:Heap}{a:Addr}{o:HO}(x:dY P w H h)(hn:H a=none)(new:a8 P w (upd H a o) h a o):dY P w (upd H a o) h:=fun b u e=>by
 by_cases hb:b=a
 ·subst hb; rw [ag] at e; cases e; exact new
 ·rw [ar hb] at e
  exact (x b u e).stay (fun c v _ q=>q) (fun c q=>by rw [ar (au q hn)]; exact q) fun c xs q=>by rw [ar (au q hn)]; exact q
section
variable {prog:Program}{w:World}{A:Around}{R:Result->Shared->Prop}{s:Shared}
theorem k9 {elt target iter:Expr}{ifs:List Expr}{scope:Scope}{pos:Pos}{it acc:Value}{env:Env}(I:Nat->Shared->Prop)
 (turn:∀ n s,I n s->wpAny (model prog w) A (pyNext it) (fun r s₁=>match r with
  | none=>R (.ok .next) s₁
  | some v=>wpAny (model prog w) A (letOwnedTupleGo target it v) (fun _ s₁=>wpAny (model prog w) A (assign target env v) (fun _ s₂ =>
   wpAny (model prog w) A (forIn ifs true fun c r=>if r=true then do let ok ← isTrue c env (eval c env); pure (ForInStep.yield ok) else pure (ForInStep.yield r)) (fun ok s₃ =>
    if ok=true then wpAny (model prog w) A (eval elt env) (fun x s₄ =>
     wpAny (model prog w) A (call (.builtin "list.append") [acc,x]) (fun _ s₅=>∃ m,m < n∧I m s₅) (fun _ _=>False) s₄) (fun _ _=>False) s₃
    else ∃ m,m < n∧I m s₃) (fun _ _=>False) s₂) (fun _ _=>False) s₁) (fun _ _=>False) s₁) (fun _ _=>False) s)
 (n:Nat)(h:I n s):
 codeAny (model prog w) A (.compLoop (.ListComp elt [⟨target,iter,ifs,0⟩] scope pos) 0 it acc env) R s:=by
 refine codeAny_loop rfl I (fun n s hI=>?_) n h
 show wpAny _ A ((compTurn (.ListComp elt [⟨target,iter,ifs,0⟩] scope pos) 0 it acc env).onRaise (fun x=>do noteFrame x env; theTreesLotGoes x)) _ _ s
 refine wpAny_noted ?_
 rw [compTurn_list]
 refine wpAny_bind (wpAny_standAt (wpAny_bind (wpAny_mono (turn n s hI) (fun r s₁ h₁=>?_) fun _ _ z=>False.elim z)))
 cases r with
 | none=>exact wpAny_pure h₁
 | some v =>
   refine wpAny_bind (wpAny_mono h₁ (fun _ s₁' h₁'=>?_) fun _ _ z=>False.elim z)
   refine wpAny_bind (wpAny_mono h₁' (fun _ s₂ h₂=>wpAny_bind (wpAny_mono h₂ (fun ok s₃ h₃=>?_) fun _ _ z=>False.elim z)) fun _ _ z=>False.elim z)
   cases ok with
   | false=>exact wpAny_pure ⟨rfl,h₃⟩
   | true =>
     exact wpAny_bind (wpAny_bind (wpAny_mono h₃ (fun x s₄ h₄=>wpAny_bind (wpAny_mono h₄ (fun _ s₅ h₅=>wpAny_pure (wpAny_pure ⟨rfl,h₅⟩)) fun _ _ z=>False.elim z)) fun _ _ z=>False.elim z))
end
def dO (names:List (Str × NameKind))(env:Env):List (Str × Addr):=((names.filter fun x=>x.2 == .free).map fun x=>(x.1,(env.cells.lookup x.1).getD 0)).reverse
theorem jC {scope:Scope}{env:Env}(h:∀ x∈scope.names,x.2 = .free->∃ c,env.cells.lookup x.1=some c):closureFor scope env=pure (dO scope.names env):=by
 have key:∀ (names:List (Str × NameKind))(cs:List (Str × Addr)),(∀ x∈names,x.2 = .free->∃ c,env.cells.lookup x.1=some c) →
  (forIn names cs (fun (x:Str × NameKind)(r:List (Str × Addr))=>if (x.2 == NameKind.free)=true then (do let a ← cellOf env x.1; pure (ForInStep.yield ((x.1,a):: r))) else pure (ForInStep.yield r)):Sem (List (Str × Addr)))=pure (dO names env++cs):=by
  intro names
  induction names with
  | nil=>intro cs _; rfl
  | cons x r ih =>
    intro cs hn
    rw [List.forIn_cons]
    obtain ⟨n,k⟩:=x
    by_cases hk:k = .free
    ·subst hk
     obtain ⟨c,hc⟩:=hn (n,.free) List.mem_cons_self rfl
     have hco:cellOf env n=pure c:=by unfold cellOf; rw [hc]
     simp only [beq_self_eq_true,if_true,hco,pure_bind]
     rw [ih _ fun y hy=>hn y (List.mem_cons_of_mem _ hy)]
     simp [dO,hc]
    ·have hb:(k == NameKind.free)=false:=by simpa using hk
     simp only [hb,Bool.false_eq_true,if_false,pure_bind]
     rw [ih _ fun y hy=>hn y (List.mem_cons_of_mem _ hy)]
     simp [dO,hb]
 have z:=key scope.names [] h
 rw [List.append_nil] at z
 unfold closureFor
 first
  | exact z
  | (simp only [bind_pure]; exact z)
  | (simp; exact z)
theorem nc {names:List (Str × NameKind)}{env:Env}(h:∀ x∈names,x.2 = .free->∃ c,env.cells.lookup x.1=some c){x:Str}{c:Addr}(e:(dO names env).lookup x=some c):env.cells.lookup x=some c:=by
 have m:=PySem.mem_of_lookup e
 unfold dO at m
 rw [List.mem_reverse,List.mem_map] at m
 obtain ⟨y,hy,e'⟩:=m
 rw [List.mem_filter] at hy
 obtain ⟨c',hc'⟩:=h y hy.1 (by simpa using hy.2)
 rw [hc'] at e'
 injection e' with e1 e2
 subst e1
 rw [hc']
 exact congrArg some e2
theorem nU {names:List (Str × NameKind)}{env:Env}{x:Str}(hm:(x,NameKind.free)∈names):∃ c,(dO names env).lookup x=some c:=by
 have m:∃ c,(x,c)∈dO names env:=⟨(env.cells.lookup x).getD 0,by
  unfold dO
  rw [List.mem_reverse,List.mem_map]
  exact ⟨(x,.free),List.mem_filter.mpr ⟨hm,rfl⟩,rfl⟩⟩
 obtain ⟨c,m⟩:=m
 cases q:(dO names env).lookup x with
 | some d=>exact ⟨d,rfl⟩
 | none =>
   exfalso
   have:∀ (l:List (Str × Addr)),(x,c)∈l->l.lookup x≠none:=by
    intro l
    induction l with
    | nil=>intro h; cases h
    | cons p r ih =>
      intro h
      rw [List.lookup_cons]
      rcases List.mem_cons.mp h with h | h
      ·subst h; simp
      ·split
       ·simp
       ·exact ih h
   exact this _ m q
def d8 (X:Cx)(N:List Str)(scope:Scope)(C:Addr)(fp:List Addr)(s:Shared)(H:Hp):Cx where
 prog:=X.prog
 w:=X.w
 K:=X.K
 mg:=X.mg
 base:=X.base
 A:=X.A
 N:=N
 s₀:=s
 H₀:=H
 env:=compEnvC scope (dO scope.names X.env) C X.env
 outer:=X.stack
 stack:=X.stack
 ex:=fp
 fn:=fun _=>false
 calm:=X.calm
 pn:=[]
 xe:=fun _ _=>False
def σC (nl:Nat)(js:List Nat)(σ:St):St:=List.replicate nl none++js.map fun j=>(σ[j]?).join
structure CompOk (X:Cx)(N:List Str)(nl:Nat)(js:List Nat)(osc scope:Scope):Prop where
 out:X.env.scope=osc
 kind:scope.kind = .function
 cell:∀ y∈scope.names,y.2 ≠ .cell
 names:∀ y∈scope.names,y.2 = .local->scope.names.lookup y.1=some .local
 free:∀ y∈scope.names,y.2 = .free->osc.names.lookup y.1=some .cell∨osc.names.lookup y.1=some .free
 len:N.length=nl + js.length
 src:Paired (fun j x=>X.N[j]?=some x∧(x,NameKind.free)∈scope.names) js (N.drop nl)
 nolf:∀ y∈scope.names,y.2 = .free->scope.names.lookup y.1≠some .local
theorem dI {env:Env}:∀ {names:List (Str × NameKind)}{x:Str}{k:NameKind},(∀ y∈names,y.2 ≠ .cell) →
 (names.map fun (n,k)=>if (k == NameKind.free&&env.scope.kind == .function&&env.kindOf n == some .cell) then (n,NameKind.cell) else (n,k)).lookup x=some k->(k = .cell∨k = .free)->(x,NameKind.free)∈names
 | [],_,_,_,h,_=>by simp at h
 | (n,k0):: r,x,k,hc,h,hk=>by
   have h:List.lookup x ((if (k0 == NameKind.free&&env.scope.kind == .function&&env.kindOf n == some .cell)=true then (n,NameKind.cell) else (n,k0)):: r.map fun (n,k)=>if (k == NameKind.free&&env.scope.kind == .function&&env.kindOf n == some .cell) then (n,NameKind.cell) else (n,k))=some k:=h
   have ih:=@dI env r x k fun y hy=>hc y (List.mem_cons_of_mem _ hy)
   by_cases hx:x=n
   ·subst hx
    have hk0:k0 = .free:=by
     by_cases hb:(k0 == NameKind.free&&env.scope.kind == .function&&env.kindOf x == some .cell)=true
     ·have:=(Bool.and_eq_true_iff.mp (Bool.and_eq_true_iff.mp hb).1).1
      simpa using this
     ·rw [if_neg hb] at h
      simp only [List.lookup_cons,beq_self_eq_true] at h
      have e:k0=k:=Option.some.inj h
      rcases hk with z | z
      ·exact absurd (e.trans z) (hc (x,k0) List.mem_cons_self)
      ·exact e.trans z
    subst hk0
    exact List.mem_cons_self
   ·have hb:(x == n)=false:=by simpa using hx
    refine List.mem_cons_of_mem _ (ih ?_ hk)
    by_cases hc':(k0 == NameKind.free&&env.scope.kind == .function&&env.kindOf n == some .cell)=true
    ·rw [if_pos hc'] at h; simp only [List.lookup_cons,hb] at h; exact h
    ·rw [if_neg hc'] at h; simp only [List.lookup_cons,hb] at h; exact h
section
variable {X:Cx}{tg iter elt:Expr}{ifs:List Expr}{scope osc:Scope}{pos:Pos}{N:List Str}{nl:Nat}{js:List Nat}
def zW (X:Cx)(ifs:List Expr)(t:TT):Prop :=
 ∀ (pins:List (Addr × Obj))(s:Shared)(σ:St)(H:Hp)(Q:Bool->Hp->Prop),Inv X pins σ H s->t σ H Q →
   wpAny (model X.prog X.w) X.A (forIn ifs true fun c r=>if r=true then do let ok ← isTrue c X.env (eval c X.env); pure (ForInStep.yield ok) else pure (ForInStep.yield r)) (TP X pins σ Q) X.xe s
def tYes:TT:=fun _ H Q=>Q true H
theorem dE:zW X [] tYes:=fun _ _ _ H _ I h=>wpAny_tests_nil ⟨H,I,h⟩
theorem hX {c:Expr}{t:TT}(h:PT X c t):zW X [c] t:=fun pins s σ H Q I hw=>wpAny_tests_one (h pins s σ H Q I hw)
theorem cA {pins:List (Addr × Obj)}{σ:St}{H:Hp}{s:Shared}{b:Addr}{h':Heap}(I:Inv X pins σ H s)(f:cu X pins H b)(sb:Heap.SameBut b s.heap h'):Inv X pins σ H { s with heap:=h' }:=
 I.turned (t':=s.toks) (fun c o hc e=>(sb.2 c hc).trans e) f.1 f.2.1 f.2.2.2.1 f.2.2.2.2.1 f.2.2.2.2.2
def i5 (J:It)(g:TG)(tt:TT)(te:TE)(W:Nat->Nat->List V->St->Hp->Prop)(Fin:List V->Hp->Prop):Prop :=
 ∀ i m xs σ' H',W i m xs σ' H'->xs.length < sizeLine∧((J.stop i H'∧Fin xs H') ∨
   (J.go i H'∧∀ x H2,J.yld i H' x H2->g x σ' H2 fun σ3 H3=>tt σ3 H3 fun b H4 =>
    if b=true then te σ3 H4 fun y H5=>∃ m',m' < m∧W (i + 1) m' (xs++[y]) σ3 H5 else ∃ m',m' < m∧W (i + 1) m' xs σ3 H4))
theorem rD {pins:List (Addr × Obj)}{σ:St}{H:Hp}{s:Shared}{fp:List Addr}{h1:Heap}{C:Addr}{tk:Nat}(S:CompOk X N nl js osc scope)(I:Inv X pins σ H s)(f:∀ b∈fp,cu X pins H b)(hfp:∀ b∈fp,b < s.heap.objs.size)
 (hC:s.heap.objs.size≤C)(old:∀ b o,s.heap.get? b=some o->h1.get? b=some o){m1:Str->Option Value}(hns:h1.Ns C m1):
 Inv (d8 X N scope C fp s H) [] (σC nl js σ) H { s with heap:=h1,toks:=tk }:=by
 have hfree:∀ y∈scope.names,y.2 = .free->X.env.kindOf y.1=some .cell∨X.env.kindOf y.1=some .free:=fun y hy hf=>by
  have:=S.free y hy hf
  rw [← S.out] at this
  exact this
 have hcells:∀ y∈scope.names,y.2 = .free->∃ c,X.env.cells.lookup y.1=some c:=fun y hy hf=>I.ok.has y.1 (hfree y hy hf)
 have sub:∀ x c,(dO scope.names X.env).lookup x=some c->X.env.cells.lookup x=some c:=fun x c e=>nc hcells e
 have nfs:∀ b∈fp,b ∉ eQ X.stack:=fun b hb z=>by
  rcases List.mem_cons.mp (I.stkSub b z) with q | q
  ·exact (f b hb).2.1 q
  ·exact (f b hb).2.2.1 q
 refine ⟨⟨I.ok.mod,S.kind,I.ok.glob,I.ok.blt,hC,fun x y c e1 e2=>I.ok.inj x y c (sub x c e1) (sub y c e2),fun x hx=>?_,fun x c z _=>absurd z (by show ¬ (false=true); decide),I.ok.hd,I.ok.frames,.inl rfl,
  fun b hb=>⟨Nat.ne_of_lt (Nat.lt_of_lt_of_le (hfp b hb) hC),fun x c e=>(f b hb).2.2.2.2.1 x c (sub x c e)⟩,I.bs,Nat.le_trans I.ok.bsz I.sz,fun b o e hb=>?_,nfs,I.stack,I.stkFree⟩,
  rfl,I.bare,Un.kept old,⟨m1,hns,fun i x v e1 e2 e3=>?_⟩,fun x c e=>?_,I.hok.fresh hC,fun x c e=>I.freeC x c (sub x c e),fun p hp=>absurd (show p∈([]:List (Addr × Obj)) from hp) (by simp),I.hok.kept old,?_⟩
 ·have hx:(relabel scope X.env).names.lookup x=some .cell∨(relabel scope X.env).names.lookup x=some .free:=hx
  have m:(x,NameKind.free)∈scope.names:=by
   rcases hx with z | z
   ·exact dI S.cell z (.inl rfl)
   ·exact dI S.cell z (.inr rfl)
  exact nU m
 ·rcases (f b hb).2.2.2.1 with z | z
  ·exact I.ok.noex b o e z
  ·exact absurd (Nat.lt_of_lt_of_le (Heap.lt_size e) (Nat.le_trans I.ok.bsz z)) (Nat.lt_irrefl _)
 ·-- the names
  have e1:N[i]?=some x:=e1
  unfold σC at e2
  by_cases hi:i < nl
  ·rw [List.getElem?_append_left (by simpa using hi),List.getElem?_replicate] at e2
   split at e2 <;> cases e2
  ·obtain ⟨k,rfl⟩:∃ k,i=nl + k:=⟨i - nl,by omega⟩
   rw [List.getElem?_append_right (by simp),List.length_replicate,Nat.add_sub_cancel_left,List.getElem?_map] at e2
   cases ej:js[k]? with
   | none=>rw [ej] at e2; cases e2
   | some j =>
     rw [ej] at e2
     have e2:some ((σ[j]?).join)=some (some v):=e2
     have e2:=Option.some.inj e2
     have e4:σ[j]?=some (some v):=by
      cases q:σ[j]? with
      | none=>rw [q] at e2; cases e2
      | some z=>rw [q] at e2; exact congrArg some e2
     have e5:(N.drop nl)[k]?=some x:=by rw [List.getElem?_drop]; exact e1
     have gp:∀ {l1:List Nat}{l2:List Str}{k:Nat}{j:Nat}{x:Str},Paired (fun j x=>X.N[j]?=some x∧(x,NameKind.free)∈scope.names) l1 l2->l1[k]?=some j->l2[k]?=some x->X.N[j]?=some x∧(x,NameKind.free)∈scope.names:=by
      intro l1 l2 k j x p
      induction p generalizing k with
      | nil=>intro h; simp at h
      | cons r _ ih =>
        intro h1 h2
        cases k with
        | zero=>simp at h1 h2; subst h1; subst h2; exact r
        | succ k=>exact ih (by simpa using h1) (by simpa using h2)
     obtain ⟨hx,hm⟩:=gp S.src ej e5
     have hk:=hfree (x,.free) hm rfl
     obtain ⟨m,hn,hl⟩:=I.loc
     have vis:AS X.env.scope x:=by
      rcases hk with z | z
      ·exact .inr (.inl z)
      ·exact .inr (.inr z)
     obtain ⟨u,r,l⟩:=hl j x v hx e4 vis
     refine ⟨u,r,?_⟩
     rcases l with ⟨k1,_⟩ | ⟨_,c,hc,hcell⟩
     ·exfalso
      rcases hk with z | z <;> (rw [z] at k1; cases k1)
     ·obtain ⟨c',hc'⟩:=nU (env:=X.env) hm
      have:=sub x c' hc'
      rw [hc] at this
      cases this
      refine .inr ⟨?_,c,hc',?_⟩
      ·rcases e3 with z | z | z
       ·-- a name of the block's own: no
        exfalso
        have lk:scope.names.lookup x=some .local:=by
         have gen:∀ (l:List (Str × NameKind)),(l.map fun (n,k)=>if (k == NameKind.free&&X.env.scope.kind == .function&&X.env.kindOf n == some .cell) then (n,NameKind.cell) else (n,k)).lookup x=some .local->l.lookup x=some .local:=by
          intro l
          induction l with
          | nil=>intro h; simp at h
          | cons p r ih =>
            obtain ⟨n,k0⟩:=p
            intro h
            have h:List.lookup x ((if (k0 == NameKind.free&&X.env.scope.kind == .function&&X.env.kindOf n == some .cell)=true then (n,NameKind.cell) else (n,k0)):: r.map fun (n,k)=>if (k == NameKind.free&&X.env.scope.kind == .function&&X.env.kindOf n == some .cell) then (n,NameKind.cell) else (n,k))=some .local:=h
            cases hb:x == n with
            | true =>
              by_cases hc':(k0 == NameKind.free&&X.env.scope.kind == .function&&X.env.kindOf n == some .cell)=true
              ·rw [if_pos hc'] at h; simp only [List.lookup_cons,hb] at h; cases h
              ·rw [if_neg hc'] at h; simp only [List.lookup_cons,hb] at h ⊢; exact h
            | false =>
              simp only [List.lookup_cons,hb]
              refine ih ?_
              by_cases hc':(k0 == NameKind.free&&X.env.scope.kind == .function&&X.env.kindOf n == some .cell)=true
              ·rw [if_pos hc'] at h; simp only [List.lookup_cons,hb] at h; exact h
              ·rw [if_neg hc'] at h; simp only [List.lookup_cons,hb] at h; exact h
         exact gen _ z
        exact S.nolf (x,.free) hm rfl lk
       ·exact .inl z
       ·exact .inr z
      ·obtain ⟨o,ho,hd⟩:=hcell
       exact ⟨o,old _ _ ho,hd⟩
 ·obtain ⟨v,o,ho,hd⟩:=I.cell x c (sub x c e)
  exact ⟨v,o,old _ _ ho,hd⟩
 ·show (σC nl js σ).length=N.length
  unfold σC
  rw [List.length_append,List.length_replicate,List.length_map,S.len]
abbrev wA (ys:List Value)(k:Nat):Obj:={ cls:=.type "list",data:=.seq ys.toArray k }
theorem iF {pins:List (Addr × Obj)}{σ:St}{H:Hp}{s:Shared}{J:It}{it:Addr}{fp:List Addr}{tn:Nat->Heap->Prop}{g:TG}{tt:TT}{te:TE}{W:Nat->Nat->List V->St->Hp->Prop}{Fin:List V->Hp->Prop}
 {E:Value->Shared->Prop}{RR:Value->Addr->Result->Shared->Prop}
 (S:CompOk X N nl js osc scope)(hc:X.calm=true)(hg:∀ C fp s H,PG (d8 X N scope C fp s H) tg g)(ht:∀ C fp s H,zW (d8 X N scope C fp s H) ifs tt)(he:∀ C fp s H,PE (d8 X N scope C fp s H) elt te)
 (I:Inv X pins σ H s)(T:Turn X.prog X.w X.K tg J fp it tn)(st:tn 0 s.heap)(f:∀ b∈fp,cu X pins H b)(w0:∃ m,W 0 m [] (σC nl js σ) H)(hW:i5 J g tt te W Fin)
 (hRR:∀ (D C:Addr)(H':Hp)(s':Shared)(xs:List V)(m:Str->Option Value),Inv X pins σ (upd H' D (.lst xs)) s'->H' D=none->s'.heap.Ns C m->cu X pins (upd H' D (.lst xs)) C->Fin xs H'->RR (.ref D) C (.ok .next) s'):
 wpAny (model X.prog X.w) X.A (newList []) (fun acc s₃=>wpAny (model X.prog X.w) X.A (newFunctionEnv scope X.env.globals (dO scope.names X.env) [] X.env.qual none .none (some X.env)) (fun cenv s₄ =>
  codeAny (model X.prog X.w) X.A (.compStart (.ListComp elt [⟨tg,iter,ifs,0⟩] scope pos) 0 (.ref it) acc { cenv with scope:=relabel scope X.env }) (RR acc cenv.locals) s₄) E s₃) E s:=by
 have hfp:∀ b∈fp,b < s.heap.objs.size:=fun b hb=>by
  obtain ⟨o,e,_⟩:=T.obj 0 _ st b hb
  exact Heap.lt_size e
 refine wpAny_newObj_type (wpAny_newFunctionEnv S.cell (by intro y hy; simp at hy) (fun h₁ hns₁ hsb₁=>?_) S.kind)
 dsimp only at hns₁ hsb₁ ⊢
 generalize hH2:s.heap.push { cls:=.type "list",dict:=none,data:=.seq ([]:List Value).toArray }=H2 at hns₁ hsb₁ ⊢
 have hC:H2.objs.size=s.heap.objs.size + 1:=by rw [← hH2,Heap.size_push]
 have hDC:s.heap.objs.size≠H2.objs.size:=by rw [hC]; exact Nat.ne_of_lt (Nat.lt_succ_self _)
 have below:∀ b,b < s.heap.objs.size->b≠H2.objs.size∧b≠s.heap.objs.size:=fun b hb=>⟨by rw [hC]; exact Nat.ne_of_lt (Nat.lt_succ_of_lt hb),Nat.ne_of_lt hb⟩
 have old:∀ b o,s.heap.get? b=some o->h₁.get? b=some o:=fun b o e=>hsb₁.extBut b o (below b (Heap.lt_size e)).1 (Heap.get?_push_of_some _ (hH2 ▸ Heap.get?_push_of_some _ e))
 have hacc:h₁.get? s.heap.objs.size=some { cls:=.type "list",data:=.seq ([]:List Value).toArray 0 }:=hsb₁.extBut _ _ hDC (Heap.get?_push_of_some _ (hH2 ▸ Heap.get?_push_size _ rfl))
 have hCle:s.heap.objs.size≤H2.objs.size:=by rw [hC]; exact Nat.le_succ _
 have hcells:∀ y∈scope.names,y.2 = .free->∃ c,X.env.cells.lookup y.1=some c:=fun y hy hf=>by
  have z:=S.free y hy hf
  rw [← S.out] at z
  exact I.ok.has y.1 z
 have sub:∀ x c,(dO scope.names X.env).lookup x=some c->X.env.cells.lookup x=some c:=fun x c e=>nc hcells e
 have clt:∀ x c,(dO scope.names X.env).lookup x=some c->c < s.heap.objs.size:=fun x c e=>by
  obtain ⟨v,q⟩:=I.cell x c (sub x c e)
  exact q.lt
 have nfs:∀ b∈fp,b ∉ eQ X.stack:=fun b hb z=>by
  rcases List.mem_cons.mp (I.stkSub b z) with q | q
  ·exact (f b hb).2.1 q
  ·exact (f b hb).2.2.1 q
 have dfs:s.heap.objs.size ∉ eQ X.stack:=fun z=>by
  rcases List.mem_cons.mp (I.stkSub _ z) with q | q
  ·exact absurd I.lt (by rw [← q]; exact Nat.lt_irrefl _)
  ·exact I.nofs (Nat.le_refl _) q
 have dfp:s.heap.objs.size ∉ fp:=fun z=>Nat.lt_irrefl _ (hfp _ z)
 have fpk:∀ {H':Hp}{ob:Obj},(∀ b∈fp,H' b=none)->∀ b∈fp,cu (d8 X N scope H2.objs.size fp s H) [(s.heap.objs.size,ob)] H' b:=fun {H' ob} hn b hb =>
  ⟨hn b hb,(below b (hfp b hb)).1,nfs b hb,.inl hb,fun x c e=>(f b hb).2.2.2.2.1 x c (sub x c e),fun p hp z=>by
   have e:p=(s.heap.objs.size,ob):=by
    have:p∈[(s.heap.objs.size,ob)]:=hp
    simpa using this
   subst e
   exact dfp (by rw [show s.heap.objs.size=b from z]; exact hb)⟩
 have dOk:∀ {H':Hp},H' s.heap.objs.size=none->cu (d8 X N scope H2.objs.size fp s H) [] H' s.heap.objs.size:=fun {H'} hn =>
  ⟨hn,hDC,dfs,.inr (Nat.le_refl _),fun x c e=>Nat.ne_of_lt (clt x c e),fun p hp=>absurd (show p∈([]:List (Addr × Obj)) from hp) (by simp)⟩
 have pinD:∀ {σ':St}{H':Hp}{s':Shared}{ys:List Value}{k:Nat},Inv (d8 X N scope H2.objs.size fp s H) [] σ' H' s'->H' s.heap.objs.size=none->s'.heap.get? s.heap.objs.size=some (wA ys k) →
  Inv (d8 X N scope H2.objs.size fp s H) [(s.heap.objs.size,wA ys k)] σ' H' s':=fun {σ' H' s' ys k} I' hn hl=>I'.pins_of fun p hp=>by
  have e:p=(s.heap.objs.size,wA ys k):=by simpa using hp
  subst e
  exact ⟨hl,hn,hDC,dfs,fun v z=>by cases z⟩
 have loop:∀ s₃:Shared,s₃={ s with heap:=h₁,toks:=s.toks + ([]:List (Str × Value)).length } →
  codeAny (model X.prog X.w) X.A (.compLoop (.ListComp elt [⟨tg,iter,ifs,0⟩] scope pos) 0 (.ref it) (.ref s.heap.objs.size) (compEnvC scope (dO scope.names X.env) H2.objs.size X.env))
   (RR (.ref s.heap.objs.size) H2.objs.size) s₃:=by
  rintro s₃ rfl
  obtain ⟨m0,w0⟩:=w0
  have I0:Inv (d8 X N scope H2.objs.size fp s H) [] (σC nl js σ) H { s with heap:=h₁,toks:=s.toks + ([]:List (Str × Value)).length }:=rD S I f hfp hCle old hns₁
  refine k9 (fun n s'=>∃ i σ' H' xs ys k,Inv (d8 X N scope H2.objs.size fp s H) [(s.heap.objs.size,wA ys k)] σ' H' s'∧tn i s'.heap∧(∀ b∈fp,H' b=none)∧aI xs ys∧W i n xs σ' H') ?_ m0
   ⟨0,σC nl js σ,H,[],[],0,pinD I0 (I.hok.fresh (Nat.le_refl _)) hacc,T.keep _ _ _ st fun b _ o e=>old b o e,fun b hb=>(f b hb).1,.nil,w0⟩
  rintro n s' ⟨i,σ',H',xs,ys,k,I',st',fr',rv,w'⟩
  obtain ⟨hz,hw⟩:=hW i n xs σ' H' w'
  rcases hw with ⟨stop,fin⟩ | ⟨go,step⟩
  ·refine wpAny_mono (T.done (d8 X N scope H2.objs.size fp s H) rfl rfl rfl hc i _ s' σ' H' (fun _ _=>False) I' (fpk fr') st' stop) (fun r s1 ⟨hr,I1⟩=>?_) fun _ _ z=>z
   subst hr
   obtain ⟨p1,p2,_⟩:=I1.pin (s.heap.objs.size,wA ys k) (by show _∈([]:List (Addr × Obj))++[_]; simp)
   have u1:Un (eQ X.stack) fp H H' s.heap s1.heap:=I1.base
   have u2:Un (eQ X.stack) fp H (upd H' s.heap.objs.size (.lst xs)) s.heap s1.heap:=⟨u1.keep,u1.slot,fun b o e n hx=>by rw [ar (Nat.ne_of_lt (Heap.lt_size e))]; exact u1.free b o e n hx,u1.there,
    fun b zs e=>by rw [ar (au (u1.tups b zs e) p2)]; exact u1.tups b zs e,fun b o zs e=>by rw [ar (au (u1.frzs b o zs e) p2)]; exact u1.frzs b o zs e,fun b ps e=>by
     obtain ⟨mo,q⟩:=u1.tbls b ps e
     exact ⟨mo,by rw [ar (au q p2)]; exact q⟩⟩
   have hk:dY X.prog X.w (upd H' s.heap.objs.size (.lst xs)) s1.heap:=dn I1.hok p2 ⟨Nat.le_of_lt hz,ys,k,rv,p1⟩
   have I3:Inv X pins σ (upd H' s.heap.objs.size (.lst xs)) s1:=I.call' I1.os u2 hk I1.bare fun b hb=>⟨(f b hb).2.2.2.1,(f b hb).2.1,(f b hb).2.2.2.2.1,(f b hb).2.2.2.2.2⟩
   obtain ⟨mm,hnn,_⟩:=I1.loc
   have hnC:upd H' s.heap.objs.size (.lst xs) H2.objs.size=none:=by rw [ar (Ne.symm hDC)]; exact I1.free
   exact hRR _ _ H' s1 xs mm I3 p2 hnn (I.fpOk hCle hnC) fin
  ·refine wpAny_mono (T.item (d8 X N scope H2.objs.size fp s H) rfl rfl rfl hc i _ s' σ' H' (fun _ _=>False) I' (fpk fr') st' go) (fun r s1 ⟨u,hr,h4⟩=>?_) fun _ _ z=>z
   subst hr
   refine wpAny_mono h4 (fun _ s2 ⟨x,H2',I2,r2,y2,st2,fr2⟩=>?_) fun _ _ z=>z
   have I2':=I2.pinned (fpk fr2) (T.obj _ _ st2)
   refine wpAny_mono (hg _ _ _ _ _ s2 σ' H2' x u _ I2' r2 (step x H2' y2)) (fun _ s3 ⟨σ3,H3,I3,q3⟩=>?_) fun _ _ z=>z
   refine wpAny_mono (ht _ _ _ _ _ s3 σ3 H3 _ I3 q3) (fun ok s4 ⟨H4,I4,q4⟩=>?_) fun _ _ z=>z
   have back:∀ {s5:Shared}{H5:Hp},Inv (d8 X N scope H2.objs.size fp s H) ([(s.heap.objs.size,wA ys k)]++iO fp s2.heap) σ3 H5 s5->tn (i + 1) s5.heap∧∀ b∈fp,H5 b=none:=fun {s5 H5} I5 =>
    ⟨T.keep _ _ _ st2 fun b hb o e=>(I5.pin (b,o) (List.mem_append_right _ (List.mem_append_right _ (dF hb e)))).1,fun b hb=>by
     obtain ⟨o,e,d⟩:=T.obj _ _ st2 b hb
     exact (I5.pin (b,o) (List.mem_append_right _ (List.mem_append_right _ (dF hb e)))).2.1⟩
   cases ok with
   | false =>
     rw [if_neg Bool.false_ne_true] at q4 ⊢
     obtain ⟨m',hm,w4⟩:=q4
     exact ⟨m',hm,i + 1,σ3,H4,xs,ys,k,I4.unpinned,(back I4).1,(back I4).2,rv,w4⟩
   | true =>
     rw [if_pos rfl] at q4 ⊢
     refine wpAny_mono (he _ _ _ _ _ s4 σ3 H4 _ I4 q4) (fun v s5 ⟨y,H5,I5,r5,m',hm,w5⟩=>?_) fun _ _ z=>z
     obtain ⟨p1,p2,_⟩:=I5.pin (s.heap.objs.size,wA ys k) (List.mem_append_right _ (List.mem_append_left _ (by simp)))
     obtain ⟨st5,fr5⟩:=back I5
     refine append_at (its:=ys.toArray) p1 (fun h' sb hD=>?_) (by rw [List.size_toArray,← rv.length]; exact Nat.le_of_lt hz)
     have I6:Inv (d8 X N scope H2.objs.size fp s H) [] σ3 H5 { s5 with heap:=h' }:=cA (I5.pins_of (pins':=[]) fun p hp=>absurd hp (by simp)) (dOk p2) sb
     refine ⟨m',hm,i + 1,σ3,H5,xs++[y],ys++[v],k + 1,pinD I6 p2 ?_,T.keep _ _ _ st5 fun b hb o e=>(sb.2 b fun z=>dfp (z ▸ hb)).trans e,fr5,rv.append (.cons r5 .nil),w5⟩
     rw [hD]
     show some _=some (wA (ys++[v]) (k + 1))
     rw [wA,← List.push_toArray]
 exact codeAny_compStart_list (loop _ rfl) (T.self X.A 0 _ _ _ (T.keep _ _ _ st fun b _ o e=>old b o e) (loop _ rfl))
def xK (wi:TI)(g:TG)(tt:TT)(te:TE)(nl:Nat)(js:List Nat):TE:=fun σ H Q=>wi σ H fun J H1 =>
 ∃ W:Nat->Nat->List V->St->Hp->Prop,(∃ m,W 0 m [] (σC nl js σ) H1)∧i5 J g tt te W fun xs H'=>∀ D,H' D=none->Q (.ref D) (upd H' D (.lst xs))
theorem iZ {pins:List (Addr × Obj)}{σ:St}{H:Hp}{s:Shared}(S:CompOk X N nl js osc scope)(I:Inv X pins σ H s):closureFor scope X.env=pure (dO scope.names X.env):=jC fun y hy hf=>by
 have z:=S.free y hy hf
 rw [← S.out] at z
 exact I.ok.has y.1 z
theorem dG {wi:TI}{g:TG}{tt:TT}{te:TE}(S:CompOk X N nl js osc scope)(hc:X.calm=true)(hi:PI X tg iter wi)(hg:∀ C fp s H,PG (d8 X N scope C fp s H) tg g)(ht:∀ C fp s H,zW (d8 X N scope C fp s H) ifs tt)
 (he:∀ C fp s H,PE (d8 X N scope C fp s H) elt te)(hs:∀ x,foldedSetIterable iter X.env x=pure x:=by intro _; rfl):
 PE X (.ListComp elt [⟨tg,iter,ifs,0⟩] scope pos) (xK wi g tt te nl js):=by
 intro pins s σ H Q I h
 rw [eval_ListComp]
 refine wpAny_comprehension_free (use:=none) rfl hs (iZ S I) S.kind S.names (br (hi pins s σ H _ I h) fun v s1 h1=>br h1 fun itv s2 h2=>?_)
 obtain ⟨it,fp,tn,J,H2,e,I2,T,st2,f2,W,w0,hW⟩:=h2
 subst e
 refine iF (RR:=fun acc C=>compPost (model X.prog X.w) X.A X.xe none (EP X pins σ Q) acc C) S hc hg ht he I2 T st2 f2 w0 hW ?_
 intro D C H' s' xs m I3 hD hn fC fin
 exact ⟨m,hn,fun h' sb=>⟨.ref D,_,cA I3 fC sb,rfl,fin D hD⟩⟩
theorem g9 {i:Nat}{y:Str}{py spos:Pos}{wi:TI}{g:TG}{tt:TT}{te:TE}(S:CompOk X N nl js osc scope)(hc:X.calm=true)(hN:X.N.Nodup)(hy:X.N[i]?=some y)(hl:zL X.env.scope y)(hi:PI X tg iter wi)
 (hg:∀ C fp s H,PG (d8 X N scope C fp s H) tg g)(ht:∀ C fp s H,zW (d8 X N scope C fp s H) ifs tt)(he:∀ C fp s H,PE (d8 X N scope C fp s H) elt te)
 (hsw:swapsWith (.ListComp elt [⟨tg,iter,ifs,0⟩] scope pos) (some (.Name y py)) spos.line X.env=pure true)(hs:∀ x,foldedSetIterable iter X.env x=pure x:=by intro _; rfl)
 (hf:X.fn y=true∨X.env.scope.names.lookup y=some .local:=by first | exact .inl rfl | exact .inr rfl | assumption):
 PS X (.Assign [.Name y py] (.ListComp elt [⟨tg,iter,ifs,0⟩] scope pos) spos) (vj (xK wi g tt te nl js) (cc i)):=by
 intro pins s σ H D I h
 rw [exec_Assign_Name_used _ _ _ _ hsw]
 refine wpAny_bind (wpAny_standAt (wpAny_bind ?_))
 show wpAny _ X.A (do let _ ← comprehension (.ListComp elt [⟨tg,iter,ifs,0⟩] scope pos) scope X.env _ (newList []) false (eval iter X.env) (some (assign (.Name y py) X.env))) _ _ s
 refine wpAny_bind (wpAny_mono (wpAny_comprehension_free (use:=some (assign (.Name y py) X.env)) (Q:=fun _ s'=>SP X pins D .next s') rfl hs (iZ S I) S.kind S.names
  (br (hi pins s σ H _ I h) fun v s1 h1=>br h1 fun itv s2 h2=>?_)) (fun _ s' hq=>wpAny_pure (wpAny_pure hq)) fun _ _ e=>e)
 obtain ⟨it,fp,tn,J,H2,e,I2,T,st2,f2,W,w0,hW⟩:=h2
 subst e
 refine iF (RR:=fun acc C=>compPost (model X.prog X.w) X.A X.xe (some (assign (.Name y py) X.env)) (fun _ s'=>SP X pins D .next s') acc C) S hc hg ht he I2 T st2 f2 w0 hW ?_
 intro Dd C H' s' xs m I3 hD hn fC fin
 show wpAny _ X.A (assign (.Name y py) X.env (.ref Dd)) _ _ _
 refine wpAny_assign_Name (jH I3 hN hy hl (show aC (.ref Dd) (.ref Dd) from rfl) (fun s4 I4 ⟨a,sb,ha⟩=>?_) hf)
 refine ⟨m,hn.sameBut sb ?_,fun h' sb'=>⟨_,_,cA I4 fC sb',fin Dd hD⟩⟩
 rcases ha with z | z
 ·rw [z]; exact fC.2.1
 ·exact fun q=>fC.2.2.2.2.1 _ _ z q.symm
end
open PySem.W
def Cc (h B:Heap)(e:Addr)(cls a0 fl:Value)(d:Option Addr):Prop :=
 ∃ (o:Obj)(vs:Array Value)(T:Addr)(oT:Obj)(ts:Array Value),h.get? e=some o∧o.dict=d∧(o.cls=cls∧vs[0]?=some a0)∧o.data = .fields vs∧vs[1]?=some (.ref T)∧B.get? T=none∧T≠e∧h.get? T=some oT∧oT.data = .fields ts∧ts[3]?=some fl
structure FlyD (B:Heap)(l:List Env)(e:Addr)(cls a0 fl:Value)(d:Option Addr)(h:Heap):Prop where
 st:B.StaysIn h
 new:B.get? e=none
 fr:h.FunFrames B l
 tr:Cc h B e cls a0 fl d
section
variable {M:Model}{A:Around}{E:Value->Shared->Prop}{s:Shared}{B:Heap}{env:Env}{outer:List Env}{L e:Addr}{cls a0:Value}{d:Option Addr}{Q:Unit->Shared->Prop}
theorem wg {o:Obj}{vs:Array Value}{hd:Value}{nx:Bool}(hfr:A.frames=some (env :: outer))(fr:s.heap.FunFrames B (env :: outer))(hf:env.frame=some L)(st:B.StaysIn s.heap)(new:B.get? e=none)
 (he:s.heap.get? e=some o)(hdd:o.dict=d)(hc:o.cls=cls)(hv:o.data = .fields vs)(h1:1 < vs.size)(h0:vs[0]?=some a0)
 (h:∀ h',FlyD B (env :: outer) e cls a0 (rawInt L) d h'->s.heap.UpToSlots h'->Q () { s with heap:=h' }):
 wpAny M A (do let a ← frameOf env; let pl ← entryPlaceOf L nx; let b ← EntryCells.newEntry hd a .none (rawInt L) .none pl; setField (.ref e) 1 b) Q E s:=by
 have nf:e ∉ (env :: outer).filterMap (·.frame):=fun m=>by
  obtain ⟨_,o',ho',q⟩:=fr.mem m
  rw [he] at ho'; cases ho'; exact q vs hv
 refine wpAny_bind (wpAny_frameOf_fun hfr fr hf fun g sl=>wpAny_bind (wpAny_entryPlaceOf fun pl hpl=>?_))
 unfold EntryCells.newEntry newFields
 refine wpAny_bind (wpAny_newObj_type ?_ (hpl.sizeOk5 _ _ _ _ _))
 have e1:g.get? e=some o:=(sl.2.1 e nf).trans he
 have st1:B.StaysIn g:=fun b ob q=>(sl.2.1 b fun m=>by rw [(fr.mem m).1] at q; cases q).trans (st b ob q)
 have ne:g.objs.size≠e:=Nat.ne_of_gt (Heap.lt_size e1)
 have dv:=Obj.data_mapFields hv (·.setIfInBounds 1 (Value.ref g.objs.size))
 have kp:∀ (oT:Obj) b ob,b≠e->g.get? b=some ob->((g.push oT).update e (Obj.mapFields (·.setIfInBounds 1 (Value.ref g.objs.size)))).get? b=some ob:=fun oT b ob hb q =>
  (Heap.get?_update_other _ _ (Ne.symm hb)).trans (Heap.get?_push_of_some _ q)
 have nr:∀ b ob,s.heap.get? b=some ob->(∀ ws,ob.data ≠ .fields ws)->b≠e:=fun b ob q hn z=>by rw [z,he] at q; cases q; exact hn vs hv
 refine wpAny_setField (Heap.get?_push_of_some _ e1) hv h1 (h _ ⟨fun b ob q=>kp _ b ob (fun z=>by rw [z,new] at q; cases q) (st1 b ob q),new,fr.of_keeps fun b ob q hn=>?_,?_⟩ fun b ob q hn=>?_)
 ·obtain ⟨z,q1⟩:=sl.2.2 b ob q
  exact ⟨_,kp _ b _ (nr b ob q hn) q1,rfl⟩
 ·refine ⟨_,_,g.objs.size,_,_,Heap.get?_update_self _ (Heap.get?_push_of_some _ e1) (Obj.isFreed_of_fields dv),?_,⟨(Obj.cls_mapFields _ _).trans hc,by rw [Array.getElem?_setIfInBounds_ne (by decide)]; exact h0⟩,dv,by simp [h1],st1.fresh,ne,
   (Heap.get?_update_other _ _ (Ne.symm ne)).trans (Heap.get?_push_size g rfl),rfl,by first | (simp; done) | (rcases hpl with rfl | ⟨_,_,_,_,_,_,_,rfl⟩ <;> simp)⟩
  rw [← hdd]
  cases o
  dsimp only at hv
  subst hv
  rfl
 ·obtain ⟨z,q1⟩:=sl.2.2 b ob q
  exact ⟨z,kp _ b _ (nr b ob q hn) q1⟩
theorem t9 {o:Obj}{vs:Array Value}(hfr:A.frames=some (env :: outer))(fr:s.heap.FunFrames B (env :: outer))(hf:env.frame=some L)(st:B.StaysIn s.heap)(new:B.get? e=none)
 (he:s.heap.get? e=some o)(hdd:o.dict=d)(hc:o.cls=cls)(hv:o.data = .fields vs)(h1:vs[1]?=some .none)(h0:vs[0]?=some a0)
 (h:∀ h',FlyD B (env :: outer) e cls a0 (rawInt L) d h'->s.heap.UpToSlots h'->Q () { s with heap:=h' }):wpAny M A (noteFrame (.ref e) env) Q E s:=by
 unfold noteFrame
 simp only [hf]
 refine wpAny_bind (wpAny_field he hv h1 ?_)
 rw [if_neg (by decide)]
 exact wg hfr fr hf st new he hdd hc hv (Array.getElem?_eq_some_iff.mp h1).1 h0 h
theorem vk {l:List Env}{fl:Value}(x:FlyD B l e cls a0 fl d s.heap)(h:∀ h',FlyD B l e cls a0 .none d h'->s.heap.UpToSlots h'->Q () { s with heap:=h' }):wpAny M A (setFlight (.ref e) none) Q E s:=by
 obtain ⟨o,vs,T,oT,ts,he,hdd,hc,hv,h1,nT,Te,hT,hvT,h3⟩:=x.tr
 have z3:3 < ts.size:=(Array.getElem?_eq_some_iff.mp h3).1
 have ot:∀ b,b≠T->(s.heap.update T (Obj.mapFields (·.setIfInBounds 3 Value.none))).get? b=s.heap.get? b:=fun b hb=>Heap.get?_update_other _ _ (Ne.symm hb)
 have nr:∀ b ob,s.heap.get? b=some ob->(∀ ws,ob.data ≠ .fields ws)->b≠T:=fun b ob q hn z=>by rw [z,hT] at q; cases q; exact hn ts hvT
 unfold setFlight
 refine wpAny_bind (wpAny_field he hv h1 ?_)
 rw [if_pos (by simp)]
 refine wpAny_setField hT hvT z3 (h _ ⟨fun b ob q=>(ot b fun z=>by rw [z,nT] at q; cases q).trans (x.st b ob q),x.new,x.fr.of_keeps fun b ob q hn=>⟨ob,(ot b (nr b ob q hn)).trans q,rfl⟩,?_⟩ fun b ob q hn=>⟨ob.slots,(ot b (nr b ob q hn)).trans q⟩)
 exact ⟨o,vs,T,_,_,(ot e (Ne.symm Te)).trans he,hdd,hc,hv,h1,nT,Te,Heap.get?_update_self _ hT (Obj.isFreed_of_fields (Obj.data_mapFields hvT _)),Obj.data_mapFields hvT _,by simp [z3]⟩
theorem FlyD.out {h:Heap}{fl:Value}(x:FlyD B (env :: outer) e cls a0 fl d h):FlyD B outer e cls a0 fl d h:=⟨x.st,x.new,x.fr.2.2,x.tr⟩
theorem rh {o:Obj}{vs:Array Value}(hfr:A.frames=some (env :: outer))(fr:s.heap.FunFrames B (env :: outer))(hf:env.frame=some L)(st:B.StaysIn s.heap)(new:B.get? e=none)
 (he:s.heap.get? e=some o)(hdd:o.dict=d)(hc:o.cls=cls)(hv:o.data = .fields vs)(h1:vs[1]?=some .none)(h0:vs[0]?=some a0)
 (h:∀ h',FlyD B outer e cls a0 .none d h'->s.heap.UpToSlots h'->Q () { s with heap:=h' }):wpAny M A (leaving env (.ref e)) Q E s:=by
 unfold leaving
 exact wpAny_bind (t9 hfr fr hf st new he hdd hc hv h1 h0 fun g y up=>vk (s:={ s with heap:=g }) y fun g2 y2 up2=>h g2 y2.out (up.trans up2))
end
theorem a8.there {P:Program}{w:World}{H:Hp}{h:Heap}{a:Addr}{o:HO}(x:a8 P w H h a o):∃ ob,h.get? a=some ob:=by
 cases o with
 | lst xs=>obtain ⟨_,_,_,_,e⟩:=x; exact ⟨_,e⟩
 | tup xs=>obtain ⟨_,_,_,ob,e,_⟩:=x; exact ⟨_,e⟩
 | dK kvs=>obtain ⟨_,_,_,_,o,_,_,e,_⟩:=x; exact ⟨_,e⟩
 | dT kvs=>obtain ⟨_,_,_,_,o,_,_,e,_⟩:=x; exact ⟨_,e⟩
 | set S n=>obtain ⟨o,_,_,_,e,_⟩:=x; exact ⟨_,e⟩
 | ins C dx fs=>obtain ⟨_,_,_,e,_⟩:=x; exact ⟨_,e⟩
 | own y=>obtain ⟨_,e⟩:=x; exact ⟨_,e⟩
 | xd fs=>obtain ⟨_,⟨_,_,_,e,_⟩,_⟩:=x; exact ⟨_,e⟩
 | rng lo hi=>obtain ⟨_,_,_,e⟩:=x; exact ⟨_,e⟩
 | frz ob u=>obtain ⟨e,_⟩:=x; exact ⟨_,e⟩
 | tbl ps=>exact ⟨_,(show h.get? a=some _ from x)⟩
 | met f y=>exact ⟨_,(show h.get? a=some _ from x)⟩
 | ext φ=>obtain ⟨_,⟨_,e⟩,_⟩:=x; exact ⟨_,e⟩
structure Flies (P:Program)(w:World)(l:List Env)(H₀:Hp)(h₀:Heap)(a:Addr)(cls:Value)(H:Hp)(h:Heap)(B:Heap)(a0:Value)(d:Option Addr):Prop where
 fly:FlyD B l a cls a0 .none d h
 un:Un (eQ l) [] H₀ H h₀ h
 keep:∀ b o,h₀.get? b=some o->H₀ b=none->b ∉ eQ l->B.get? b=some o
 there:∀ b o,h₀.get? b=some o->b ∉ eQ l->∃ o',B.get? b=some o'
 hok:dY P w H B
 new:H a=none
def bh (P:Program)(w:World):CXT:=fun outer H₀ s₀ E e s'=>∃ (a:Addr)(cls a0:Value)(B:Heap)(d:Option Addr)(H:Hp),e = .ref a∧s'.os=s₀.os∧AllBare s'.gens∧Flies P w outer H₀ s₀.heap a cls H s'.heap B a0 d∧E cls d H
section
variable {X:Cx}{pins:List (Addr × Obj)}{σ:St}{H H':Hp}{s s':Shared}{P:Program}{w:World}
theorem eN {h base:Heap}{l:List Env}(F:h.FunFrames base l){b:Addr}{o:Obj}(hb:b∈eQ l)(e:h.get? b=some o):∀ vs,o.data ≠ .fields vs:=by
 obtain ⟨_,o',e',d⟩:=F.mem hb
 rw [e] at e'
 cases e'
 exact d
theorem oI {outer:List Env}{h' h'' B:Heap}{e t:Addr}{cls:Value}{args:List Value}{d:Option Addr}(I:Inv X pins σ H s)(hex:X.ex=[])(hst:X.stack=X.env :: X.outer)(hm:Heap.MadeExcOf s.heap h' e cls args)
 (hB:B=PySem.W.hideAll s.heap (eQ X.stack))(hf:FlyD B X.outer e cls (.ref t) .none d h'')(hsm:h'.UpToSlots h''):Flies X.prog X.w X.outer X.H₀ X.s₀.heap e cls H h'' B (.ref t) d:=by
 subst hB
 have st:=hf.st
 have inB:∀ b o,s.heap.get? b=some o->b ∉ eQ X.stack->(PySem.W.hideAll s.heap (eQ X.stack)).get? b=some o:=fun b o e n=>PySem.W.hideAll_get _ e n
 have old:∀ b o,X.s₀.heap.get? b=some o->b ∉ eQ X.outer->b ∉ eQ X.stack:=fun b o e n z=>by
  rcases List.mem_cons.mp (I.stkSub b z) with q | q
  ·exact absurd (Nat.lt_of_lt_of_le (Heap.lt_size e) I.ok.above) (by rw [q]; exact Nat.lt_irrefl _)
  ·exact n q
 have base:Un (eQ X.outer) [] X.H₀ H X.s₀.heap s.heap:=by
  have z:=I.base
  rw [hex] at z
  exact z
 refine ⟨hf,⟨fun b o e n hb _=>st b o (inB b o (base.keep b o e n hb (by simp)) (old b o e hb)),fun b o e n hb _=>?_,base.free,fun b o e _=>?_,base.tups,base.frzs,base.tbls⟩,fun b o e n hb=>inB b o (base.keep b o e n hb (by simp)) (old b o e hb),fun b o e hb=>?_,fun b u e=>?_,?_⟩
 ·obtain ⟨sl,e1⟩:=base.slot b o e n hb (by simp)
  obtain ⟨sl',e2⟩:=hsm b _ (hm.keeps b _ e1) (eN I.funs hb e1)
  exact ⟨sl',e2⟩
 ·obtain ⟨o',e1⟩:=base.there b o e (by simp)
  by_cases hb:b∈eQ X.outer
  ·obtain ⟨sl',e2⟩:=hsm b _ (hm.keeps b _ e1) (eN I.funs hb e1)
   exact ⟨_,e2⟩
  ·exact ⟨o',st b o' (inB b o' e1 (old b o e hb))⟩
 ·obtain ⟨o',e1⟩:=base.there b o e (by simp)
  exact ⟨o',inB b o' e1 (old b o e hb)⟩
 ·exact (I.hok b u e).stay (fun c v hc q=>inB c v q fun z=>by
   have n:=I.stkFree c z
   rcases hc with hc | hc
   ·rw [hc,e] at n; cases n
   ·rw [n] at hc; cases hc) (fun _ q=>q) fun _ _ q=>q
 ·cases q:H e with
  | none=>rfl
  | some u =>
    obtain ⟨ob,e1⟩:=(I.hok e u q).there
    rw [hm.new] at e1
    cases e1
end
theorem xG {K:PySem.W.Frag}{h:Heap}{C:Addr}{bmB:List Value}{newId:String}(X:K.In h)(q:PySem.W.excIn K C bmB newId=true):
 ∃ bm N nm qn bs hd sn sub ab col dd k0 k1 k2 k3 k5 mN,h.get? C=some (excClassObj nm qn C N bs bm hd sn sub ab col dd k0 k1 k2 k3 k5 newId)∧h.Ns N mN∧mN "__init__"=none∧OwnTail h bmB bm:=by
 unfold PySem.W.excIn at q
 split at q
 ·rename_i dd cd sl ho
  split at q
  ·rename_i C' bm k0 k1 k2 k3 n k5 hm hs
   simp only [Bool.and_eq_true,beq_iff_eq,Bool.not_eq_true'] at q
   obtain ⟨⟨⟨⟨⟨rfl,rfl⟩,hdel⟩,ht⟩,hok⟩,hni⟩:=q
   obtain ⟨nm,bs,mro,ns,qn,hd,sn,sub,ab,col,del⟩:=cd
   dsimp only at hm hdel hok hni
   subst hm hdel
   have hsl:sl = #[k0,k1,k2,k3,some (.builtin n),k5]:=by
    obtain ⟨l⟩:=sl
    simp only at hs
    rw [hs]
   subst hsl
   exact ⟨bm,ns,nm,qn,bs,hd,sn,sub,ab,col,dd,k0,k1,k2,k3,k5,_,X _ _ ho,.of_isNs (PySem.W.isNs_of_in X hok),PySem.W.nsMap_none_of_in X hok hni,PySem.W.tail_of_in X ht⟩
  ·cases q
 ·cases q
def uW (X:Cx)(E:St->XK):Prop:=∀ (pins:List (Addr × Obj))(σ:St)(H:Hp)(s:Shared)(h':Heap)(e:Addr)(cls:Value)(args:List Value),Inv X pins σ H s->Heap.MadeExcOf s.heap h' e cls args->E σ cls none H->X.xe (.ref e) { s with heap:=h' }
def ya (C:Addr)(E:St->XK)(t:TA):TS:=fun _ σ H=>t σ H fun vs H1=>vs.length≤sizeLine∧E σ (.ref C) none H1
section
variable {X:Cx}{E:St->XK}{x:Str}{C:Addr}{B newId initId:String}{bmB:List Value}{np cpos pos:Pos}{e:Expr}{es:List Expr}{t:TA}
theorem vS (FB:ExcBaseFacts B newId initId bmB)(q:PySem.W.excIn X.K C bmB newId=true)(hc:X.calm=true)(hR:uW X E)(hg:Gl X x)(hm:X.mg x=some (.ref C))(ha:PA X (e :: es) t)
 (he:starEach (e :: es) X.env=(false,eval e X.env):: starEach es X.env:=by rfl)(hpl:(backTo cpos (starEach es X.env)).any (·.1)=false:=by rfl)(hd:(x == ("__debug__":Str))=false:=by decide):
 PS X (.Raise (some (.Call (.Name x np) (e :: es) [] cpos)) none pos) (ya C E t):=by
 intro pins s σ H D I h
 obtain ⟨bm,N,nm,qn,bs,hdct,sn,sub,ab,col,dd,k0,k1,k2,k3,k5,mN,hC,hN,hni,T⟩:=xG I.ok.mod.kin q
 refine wpAny_Raise_call_subT (C:=C) (nm:=nm) (q:=qn) (N:=N) (bs:=bs) (bm:=bm) (hdct:=hdct) (sn:=sn) (sub:=sub) (ab:=ab) (col:=col) (dd:=dd) (k0:=k0) (k1:=k1) (k2:=k2) (k3:=k3) (k5:=k5)
  FB (mN:=mN) (T.hasType FB.hasBase) (I.ok.hd hc) (by rw [he]; show (false || (backTo cpos (starEach es X.env)).any (·.1))=false; rw [hpl]; rfl) hni (d9 I hg hm ⟨rfl,?_⟩ hd)
 have z:=ha cpos pins s σ H _ I h
 rw [he] at z ⊢
 refine Calls.evalArgs_plain (wpAny_mono z (fun us s₂ ⟨vs,H2,I2,rv,hl,hE⟩=>?_) fun _ _ y=>y)
 exact ⟨rfl,by rw [← rv.length]; exact hl,I2.bk _ _ hC,hN.keeps I2.bk,T.keeps I2.bk,fun h' e' hm'=>hR pins σ H2 s₂ h' e' _ _ I2 hm' hE⟩
end
section
variable {P:Program}{w:World}{K:PySem.W.Frag}{mg:Str->Option Value}{base:Heap}{N:List Str}{qual:Str}{scope:Scope}{f:Addr}{cd:Value}{A:Around}{outer:List Env}{s:Shared}{H:Hp}{E:XK}
theorem oH:uW (ff (bh P w) P w K mg base N qual scope f cd A outer s H E) fun _=>E:=by
 intro pins σ H1 s1 h' e cls args I hm hE
 have hst:(ff (bh P w) P w K mg base N qual scope f cd A outer s H E).stack=(ff (bh P w) P w K mg base N qual scope f cd A outer s H E).env :: outer:=rfl
 have hl:=I.stack
 obtain ⟨t,he,htn,ht⟩:=hm.there
 have hB:∀ b o,(PySem.W.hideAll s1.heap (eQ (ff (bh P w) P w K mg base N qual scope f cd A outer s H E).stack)).get? b=some o->s1.heap.get? b=some o:=fun b o q=>PySem.W.of_hideAll _ q
 have nB:(PySem.W.hideAll s1.heap (eQ (ff (bh P w) P w K mg base N qual scope f cd A outer s H E).stack)).get? e=none:=by
  cases q:(PySem.W.hideAll s1.heap (eQ (ff (bh P w) P w K mg base N qual scope f cd A outer s H E).stack)).get? e with
  | none=>rfl
  | some o=>have z:=hB _ _ q; rw [hm.new] at z; cases z
 have fr1:=PySem.W.funFrames_hide hl fun env he a ha=>List.mem_filterMap.mpr ⟨env,he,ha⟩
 refine rh (B:=PySem.W.hideAll s1.heap (eQ (ff (bh P w) P w K mg base N qual scope f cd A outer s H E).stack)) (s:={ s1 with heap:=h' }) (d:=none) (cls:=cls) (a0:=.ref t) I.ok.frames (fr1.of_keeps fun b o q _=>⟨o,hm.keeps b o q,rfl⟩) rfl
  (fun b o q=>hm.keeps b o (hB b o q)) nB he rfl rfl rfl rfl rfl fun h'' x1 x4=>?_
 exact ⟨e,cls,.ref t,_,none,H1,rfl,I.os,I.bare,oI (outer:=outer) I rfl rfl hm rfl x1 x4,hE⟩
end
theorem ae {P:Program}{w:World}{X:Cx}:bQ (bh P w) X fun _ _ _=>False:=by
 intro pins σ H1 s1 e s' I hx
 obtain ⟨a,cls,a0,B,d,H',_,_,_,_,hE⟩:=hx
 exact hE.elim
def Ae (a:Addr)(cls:Value):HO:=.ext fun h=>∃ o vs,h.get? a=some o∧o.cls=cls∧o.data = .fields vs
theorem p5 {P:Program}{w:World}{H:Hp}{h:Heap}{a:Addr}{cls:Value}(k:dY P w H h)(e:H a=some (Ae a cls)):∃ o vs,h.get? a=some o∧o.cls=cls∧o.data = .fields vs:=(k a _ e).1
structure ExcK (K:Frag)(C:Addr):Prop where
 cls:(clsIn K C).isSome=true
 ga:findIn K (.ref C) "__getattribute__"=some (some (.builtin "BaseException.__getattribute__"))
 gx:findIn K (.ref C) "__getattr__"=some none
 ca:findIn K (.ref C) "__class__"=some (some (.builtin "object.__class__"))
 ob:mroIn K C (.type "object")=some true
 be:mroIn K C (.type "BaseException")=some true
section
variable {prog:Program}{w:World}{A:Around}{E:Value->Shared->Prop}{K:Frag}{x C:Addr}{ox:Obj}
theorem sh {M:Model}{nameV:Value}{Q:Unit->Shared->Prop}{s:Shared}(X:K.In s.heap)(k:ExcK K C)(e:s.heap.get? x=some ox)(hc:ox.cls = .ref C)(hq:Q () s):
 wpAny M A (checkBuiltinCall "BaseException.__getattribute__" ⟨[.ref x,nameV],[]⟩) Q E s:=by
 obtain ⟨hh,g,d,t,os⟩:=s
 have L0:Looks M hh (typeOf (.ref x)) (.ref C):=hc ▸ (Looks.ld e).andThen .now
 have L5:=looks_mroIn (M:=M) X k.be
 have hk:builtinKind "BaseException.__getattribute__"=some .slot:=by decide +kernel
 have hsplit:splitId "BaseException.__getattribute__"=some ("BaseException","__getattribute__"):=by decide +kernel
 have ha:=F.args_bexc_ga (.ref x) nameV
 simp only [checkBuiltinCall,hk,hsplit]
 unfold isInstance
 repeat (any_goals (first | assumption | lk | wp_step))
open Builtin Builtin.ObjectAttr Builtin.Getset_descriptor in
theorem jB {R:Result->Shared->Prop}{tp:Value}{s:Shared}(X:K.In s.heap)(k:ExcK K C)(e:s.heap.get? x=some ox)(hc:ox.cls = .ref C)(h:R (.ok (.ret (.ref C))) s):
 codeAny (model prog w) A (.call (.builtin "getset_descriptor.__get__") ⟨[.builtin "object.__class__",.ref x,tp],[]⟩) R s:=by
 obtain ⟨hh,g,dr,t,os⟩:=s
 have L0:Looks (model prog w) hh (typeOf (.ref x)) (.ref C):=hc ▸ (Looks.ld e).andThen .now
 have L1:=looks_mroIn (M:=model prog w) X k.ob
 refine codeAny_call_builtin KF.slot_gs.plain KF.entry_gs (KF.slot_gs.check _ _ _ _ _ _ _ _ KF.type_class (KF.args_gs _ _ _) ?_)
 unfold Builtin.«getset_descriptor.__get__» descrGet
 rw [dga_obj]
 refine wpAny_bind (wpAny_pure ?_)
 unfold descrGetter descrCheckInstance descrNameAndClass isInstance
 simp only [KF.owner_class]
 repeat lk
 refine ⟨Code.quiet_builtin _ (by decide +kernel),codeAny_builtin KF.entry_class ?_⟩
 unfold Builtin.«object.__class__» shownTypeOf
 repeat lk
 exact h
theorem gU {tk:Tok}{Q:PySem.Fin->Shared->Prop}{s:Shared}(X:K.In s.heap)(k:ExcK K C)(e:s.heap.get? x=some ox)(hc:ox.cls = .ref C)(hq:Q (.done (.ret (.ref C))) s):
 wpAny (model prog w) A (Builtin.«object.__getattribute__» ⟨[.ref x,.str "__class__" tk],[]⟩) Q E s:=by
 obtain ⟨hh,g,d,t,os⟩:=s
 have L0:Looks (model prog w) hh (typeOf (.ref x)) (.ref C):=hc ▸ (Looks.ld e).andThen .now
 have L3:=looks_findIn (M:=model prog w) X k.ca
 have f5:=F.typeOf_object_class
 have f6:=F.slot_gs_get.lookup
 have f7:=F.slot_gs_set.lookup
 repeat (any_goals (first | assumption | (with_reducible refine Looks.at (by assumption) ?_) | (with_reducible refine Looks.at L0 ?_) | wp_step))
 refine jB X k e hc ?_
 repeat (any_goals (first | assumption | wp_step))
theorem lC {tk:Tok}{fill expr:Bool}{Q:Value->Shared->Prop}{s:Shared}(X:K.In s.heap)(k:ExcK K C)(e:s.heap.get? x=some ox)(hc:ox.cls = .ref C)(hq:Q (.ref C) s):
 wpAny (model prog w) A (getAttrBy (.ref x) (.str "__class__" tk) fill expr) Q E s:=by
 obtain ⟨hh,g,d,t,os⟩:=s
 have L0:Looks (model prog w) hh (typeOf (.ref x)) (.ref C):=hc ▸ (Looks.ld e).andThen .now
 have L1:=looks_findIn (M:=model prog w) X k.ga
 have L2:=looks_findIn (M:=model prog w) X k.gx
 have f3:=F.attr_ValueError.ga.bind (.ref x)
 have hx0:(expr&&onTheHeap (Value.builtin "BaseException.__getattribute__"))=false:=by cases expr <;> rfl
 have hx2:(Value.builtin "BaseException.__getattribute__" == Value.builtin "object.__getattribute__")=false:=by decide +kernel
 have hx1:(onTheHeap (Value.ref C)&&Value.builtin "BaseException.__getattribute__" == Value.builtin "object.__getattribute__")=false:=by rw [hx2]; rfl
 repeat (any_goals (first | assumption | (with_reducible refine Looks.at (by assumption) ?_) | (with_reducible refine Looks.at L0 ?_) | wp_step))
 refine codeAny_call_builtin F.attr_ValueError.ga.plain F.entry_bexc_ga (sh X k e hc (gU X k e hc ?_))
 repeat (any_goals (first | assumption | wp_step))
theorem sy {Q:Option Value->Shared->Prop}{s:Shared}(X:K.In s.heap)(k:ExcK K C)(e:s.heap.get? x=some ox)(hc:ox.cls = .ref C)(hq:Q (some (.ref C)) { s with toks:=s.toks + 1 }):
 wpAny (model prog w) A (getAttr? (.ref x) "__class__") Q E s:=by
 unfold getAttr? getAttrBy?
 refine wpAny_bind (wpAny_mkText (wpAny_bind (wpAny_attempt (lC (s:={ s with toks:=s.toks + 1 }) X k e hc ?_))))
 exact wpAny_pure hq
theorem ue (k:ExcK K C):KitX K (.ref x) (.ref C) (fun h=>∃ o,h.get? x=some o∧o.cls = .ref C) where
 ty:=fun _ _ _ ⟨o,e,hc⟩=>hc ▸ (Looks.ld e).andThen .now
 it:=fun _ _ X _=>by
  have hcD:=k.cls
  unfold clsIn at hcD
  split at hcD
  ·rename_i c' d' cd' sl' ho
   intro A' Q' E' s' kk q
   unfold isType loadHead
   exact wpAny_bind (wpAny_loadPart (kk _ _ (X _ _ ho)) (wpAny_pure q))
  ·cases hcD
 ne:=fun h tp dd its n sl X htp=>by
  have hcD:=k.cls
  refine Bool.eq_false_iff.mpr fun q=>?_
  have e:C=tp:=Value.ref.inj (beq_iff_eq.mp q)
  subst e
  unfold clsIn at hcD
  split at hcD
  ·rename_i c' d' cd' sl' ho
   have z:=(X _ _ ho).symm.trans htp
   cases z
  ·cases hcD
 ca:=fun X ⟨o,e,hc⟩ q=>sy X k e hc q
end
section
variable {X:Cx}{pins:List (Addr × Obj)}{σ:St}{H:Hp}{s:Shared}
inductive TyX (K:Frag)(H:Hp):V->Value->Prop where
 | of {x:V}{t:Value}(h:TyOf K H x t):TyX K H x t
 | exc {a C:Addr}(e:H a=some (Ae a (.ref C)))(k:ExcK K C):TyX K H (.ref a) (.ref C)
theorem y9 {A:Around}{E:Value->Shared->Prop}{Q:Value->Shared->Prop}{x:V}{u t c:Value}{b:Bool}(I:Inv X pins σ H s)(rx:aC x u)(ty:TyX X.K H x t)(e:kitOne X.K t c=some b)(h:∀ tk,Q (.bool b) { s with toks:=tk }):
 wpAny (model X.prog X.w) A (call (.builtin "isinstance") [u,c]) Q E s:=by
 cases ty with
 | of z=>exact rY I rx z e h
 | exc ea k =>
   rename_i a C
   cases (show u=Value.ref a from rx)
   obtain ⟨o,vs,h1,h2,_⟩:=p5 I.hok ea
   exact kia_one (ue k) I.kIn ⟨o,h1,h2⟩ e (fun z=>nomatch z) h
def Bn:V->Value->Prop
 | .ty n,c=>c = .type n
 | .ref a,c=>c = .ref a
 | _,_=>False
theorem bx:cy X (.builtin "isinstance") (fun xs H Q=>∃ x c t cv b,xs=[x,c]∧Bn c cv∧TyX X.K H x t∧kitOne X.K t cv=some b∧Q (.bl b) H):=by
 intro pins s σ H xs us Q I r h
 obtain ⟨x,c,t,cv,b,rfl,hc,ty,e,q⟩:=h
 cases r with
 | cons r1 r2 =>
   cases r2 with
   | cons r2 r3 =>
     cases r3
     rename_i u uc
     have huc:uc=cv:=by
      cases c with
      | ty n=>cases (show uc=Value.type n from r2); exact hc.symm
      | ref a=>cases (show uc=Value.ref a from r2); exact hc.symm
      | _=>exact hc.elim
     subst huc
     exact y9 I r1 ty e fun tk=>⟨.bl b,H,I.tok tk,rfl,q⟩
end
section
variable {P:Program}{w:World}{K:PySem.W.Frag}{mg:Str->Option Value}{base:Heap}
theorem Fun.okN {x qual:Str}{st:Stmt}{f:Addr}{fd:FuncData}{N ps:List Str}{k:Nat}{sp:Sp}(F:Fun K x qual st f fd)(S:FnScope N ps (ao st))(len:∀ vs H Q E,sp vs H Q E->vs.length=ps.length)
 (hbody:∀ (cdv:Value)(A:Around)(outer:List Env)(s:Shared)(H:Hp)(vs:List V)(Q:VK)(E:XK),Room k (A.deeper (envOfC qual (ao st) s.heap.objs.size f cdv))->sp vs H Q E →
  ∃ t,ju (ff (bh P w) P w K mg base N qual (ao st) f cdv A outer s H E).nox (bV st) t∧t { nx:=fun _ H'=>Q .non H',rt:=Q } (fY N vs) H):FnOk P w K mg base (bh P w) (k + 1) f fd ps sp:=by
 obtain ⟨oc,od,kV,doc,pm,an,cdv,ct,osl,rfl,lk,hcd⟩:=F.ex
 refine xT lk hcd S len fun A outer s H vs Q E hr hsp=>?_
 obtain ⟨t,h,q⟩:=hbody cdv A outer s H vs Q E hr hsp
 exact ⟨t,h.nox,q⟩
end
section
variable {X:Cx}{pins:List (Addr × Obj)}{σ:St}{H:Hp}{s:Shared}
theorem oZ {x:V}{u t:Value}(I:Inv X pins σ H s)(rx:aC x u)(ty:TyX X.K H x t):Looks (model X.prog X.w) s.heap (typeOf u) t:=by
 cases ty with
 | of ty =>
   cases ty with
   | non=>cases (show u=Value.none from rx); exact kitx_none.ty _ _ I.kIn True.intro
   | bl y=>cases (show u=Value.bool y from rx); exact kitx_bool.ty _ _ I.kIn True.intro
   | int i=>obtain ⟨t,q⟩:=(show ∃ t,u=Value.int i t from rx); cases q; exact kitx_int.ty _ _ I.kIn True.intro
   | str y=>obtain ⟨t,q⟩:=(show ∃ t,u=Value.str y t from rx); cases q; exact kitx_str.ty _ _ I.kIn True.intro
   | flt y=>obtain ⟨t,q⟩:=(show ∃ t,u=Value.float y t from rx); cases q; exact kitx_float.ty _ _ I.kIn True.intro
   | @lst a xs ea =>
     cases (show u=Value.ref a from rx)
     obtain ⟨_,_,n,_,h1⟩:=(show a8 X.prog X.w H s.heap a (.lst xs) from I.hok a _ ea)
     exact kitx_list.ty _ _ I.kIn ⟨_,h1,rfl⟩
   | @frz a ob xs ea =>
     cases (show u=Value.ref a from rx)
     obtain ⟨_,_,_,n,_,h1⟩:=(show a8 X.prog X.w H s.heap a (.frz ob (.lst xs)) from I.hok a _ ea)
     exact kitx_list.ty _ _ I.kIn ⟨_,h1,rfl⟩
   | @tup a xs ea =>
     cases (show u=Value.ref a from rx)
     obtain ⟨_,_,_,p⟩:=(show a8 X.prog X.w H s.heap a (.tup xs) from I.hok a _ ea)
     obtain ⟨o,h1,h2,_⟩:=p
     exact kitx_tuple.ty _ _ I.kIn ⟨o,h1,h2⟩
   | @dK a kvs ea =>
     cases (show u=Value.ref a from rx)
     obtain ⟨_,_,vs,_,p⟩:=(show a8 X.prog X.w H s.heap a (.dK kvs) from I.hok a _ ea)
     obtain ⟨o,es,ep,h1,h2,_⟩:=p
     exact kitx_dict.ty _ _ I.kIn ⟨o,h1,h2.1⟩
   | @dT a kvs ea =>
     cases (show u=Value.ref a from rx)
     obtain ⟨_,_,xs,_,o,es,ep,h1,h2,_⟩:=(show a8 X.prog X.w H s.heap a (.dT kvs) from I.hok a _ ea)
     exact kitx_dict.ty _ _ I.kIn ⟨o,h1,h2.1⟩
   | @ins a C dx fs ea cl ha hn htk hm =>
     cases (show u=Value.ref a from rx)
     obtain ⟨mA,O,_⟩:=cm I.hok ea
     obtain ⟨od,J,_⟩:=O.look
     exact J.type
 | exc ea k =>
   rename_i a C
   cases (show u=Value.ref a from rx)
   obtain ⟨o,vs,h1,h2,_⟩:=p5 I.hok ea
   exact h2 ▸ (Looks.ld h1).andThen .now
end
section
variable {X:Cx}{CX:CXT}{k:Nat}{f C:Addr}{fd:FuncData}{ps:List Str}{sp:Sp}{E:XK}
def dD (K:Frag)(C:Addr)(sp:Sp)(E:XK)(neg:Bool):R2:=fun x y H Q=>∃ p dx fs t,x = .ref p∧H p=some (.ins C dx fs)∧TyX K H y t∧notFirst K C t=true∧sp [x,y] H (fun v H'=>∃ b,v = .bl b∧Q (.bl (b != neg)) H') E
theorem fF (hs:findIn X.K (.ref C) "__eq__"=some (some (.ref f)))(hf:isFn X.K (.ref f)=true)(F:FnOk X.prog X.w X.K X.mg X.base CX k f fd ps sp)(hr:Room k X.A)(hb:ay X.K fd ps [])(hx:bQ CX X E):
 dz X (compareOp .Eq) (dD X.K C sp E false):=by
 intro pins s σ H x y v u Q I rx ry h
 obtain ⟨p,dx,fs,t,rfl,ep,ty,hn,q⟩:=h
 cases (show v=Value.ref p from rx)
 obtain ⟨mA,O,_⟩:=cm I.hok ep
 obtain ⟨od,J,_⟩:=O.look
 obtain ⟨m,Fm⟩:=I.fr
 refine cmp_ofEq (cmp_K hr.units0 Fm I.mod.kin J (oZ I ry ty) hn hs hf ?_)
 refine br (iz (dvs:=[]) F hr hb .nil hx I (us:=[.ref p,u]) (vs:=[.ref p,y]) (.cons rx (.cons ry .nil)) q) fun r s1 ⟨z,H1,I1,rz,b,eb,q1⟩=>?_
 subst eb
 cases (show r=Value.bool b from rz)
 exact ⟨.bl b,H1,I1,rfl,by simpa using q1⟩
theorem qr {pins:List (Addr × Obj)}{σ:St}{H:Hp}{s:Shared}{Q:VK}{us:List Value}{vs:List V}(F:FnOk X.prog X.w X.K X.mg X.base CX k f fd ps sp)(hr:Room (k + 1) X.A)(hb:ay X.K fd ps [])(hx:bQ CX X E)
 (I:Inv X pins σ H s)(r:aI vs us)(h:sp vs H Q E):wpAny (model X.prog X.w) X.A.in1 (call (.ref f) us) (EP X pins σ Q) X.xe s:=by
 have hl:us.length=ps.length:=by rw [← r.length]; exact F.len _ _ _ _ h
 have hb':=hb s us I.kIn (by rw [List.append_nil]; exact hl)
 rw [List.append_nil] at hb'
 refine wpAny_call (codeAny_mono (F.run X.A.in1 X.stack s H ⟨us,[]⟩ us vs Q E hr.in1 I.env0.in1 hb' r h) fun r s' hq=>?_)
 cases r with
 | error e=>exact hx pins σ H s e s' I hq
 | ok fl =>
   cases fl with
   | ret u=>exact I.after hq
   | next=>exact False.elim hq
   | brk=>exact False.elim hq
   | cont=>exact False.elim hq
theorem uJ {M:Model}{A:Around}{E':Value->Shared->Prop}{K:Frag}{x:Addr}{b:Value}{ox:Obj}{od:Option Obj}{Q:Unit->Shared->Prop}{s:Shared}(X:K.In s.heap)(J:InstAt s.heap x ox C od)(hm:mroIn K C (.type "object")=some true)(hq:Q () s):
 wpAny M A (checkBuiltinCall "object.__ne__" ⟨[.ref x,b],[]⟩) Q E' s:=by
 obtain ⟨hh,g,d,t,os⟩:=s
 have L0:=J.type (M:=M)
 have L5:=looks_mroIn (M:=M) X hm
 have hk:=F.cmpKind_ne
 have hsplit:=F.cmpSplit_ne
 have ha:=F.cmpArgs_ne (.ref x) b
 simp only [checkBuiltinCall,hk,hsplit]
 unfold isInstance
 repeat (any_goals (first | assumption | lk | wp_step))
theorem mj (hs:findIn X.K (.ref C) "__eq__"=some (some (.ref f)))(hf:isFn X.K (.ref f)=true)(hns:findIn X.K (.ref C) "__ne__"=some (some (.builtin "object.__ne__")))(hm:mroIn X.K C (.type "object")=some true)
 (F:FnOk X.prog X.w X.K X.mg X.base CX k f fd ps sp)(hr:Room (k + 1) X.A)(hb:ay X.K fd ps [])(hx:bQ CX X E):
 dz X (compareOp .NotEq) (dD X.K C sp E true):=by
 intro pins s σ H x y v u Q I rx ry h
 obtain ⟨p,dx,fs,t,rfl,ep,ty,hn,q⟩:=h
 cases (show v=Value.ref p from rx)
 obtain ⟨mA,O,_⟩:=cm I.hok ep
 obtain ⟨od,J,_⟩:=O.look
 have hu:X.A.units + 64 < cLine:=hr.units
 have call1:wpAny (model X.prog X.w) X.A.in1 (call (.ref f) [.ref p,u]) (fun r s'=>∃ b,r = .bool b∧EP X pins σ Q (.bool (!b)) s') X.xe s:=by
  refine wpAny_mono (qr F hr hb hx I (us:=[.ref p,u]) (vs:=[.ref p,y]) (.cons rx (.cons ry .nil)) q) (fun r s1 ⟨z,H1,I1,rz,b,eb,q1⟩=>?_) fun _ _ e=>e
  subst eb
  cases (show r=Value.bool b from rz)
  exact ⟨b,rfl,.bl (!b),H1,I1,rfl,by simpa using q1⟩
 have entry:wpAny (model X.prog X.w) X.A.in1 (Builtin.«object.__ne__» ⟨[.ref p,u],[]⟩) (fun fin s'=>∃ b,fin = .done (.ret (.bool (!b)))∧EP X pins σ Q (.bool (!b)) s') X.xe s:=by
  unfold Builtin.«object.__ne__»
  refine wpAny_bind (m:=slotArgs "__ne__" 1 _) (wpAny_pure ?_)
  refine wpAny_bind (wpAny_cRoomFor (by show X.A.units + 1 < cLine; omega) ?_)
  refine wpAny_bind (ifBound_K I.kIn J hs hf (wpAny_mono call1 (fun r s1 z=>?_) fun _ _ e=>e))
  obtain ⟨b,rfl,q1⟩:=z
  exact wpAny_bind (wpAny_truthy_bool (wpAny_pure ⟨b,rfl,q1⟩))
 have S:=PySem.F.cmp_object.ne
 have inner:wpAny (model X.prog X.w) X.A (callSpecialIfBound? (.ref p) "__ne__" [u]) (fun r s'=>∃ b,r=some (.bool (!b))∧EP X pins σ Q (.bool (!b)) s') X.xe s:=by
  simp only [callSpecialIfBound?,bindSpecialIfBound?]
  refine wpAny_holding (wpAny_bind (wpAny_bind (wpAny_bind (J.type.here ((looks_findIn I.kIn hns).here ?_)))))
  simp only [S.bind]
  refine wpAny_bind (wpAny_askSetting (wpAny_ite ?_))
  have fin:wpAny (model X.prog X.w) X.A (call (.builtin "object.__ne__") ([.ref p]++[u]) >>= fun v=>pure (some v)) (fun r s'=>∃ b,r=some (.bool (!b))∧EP X pins σ Q (.bool (!b)) s') X.xe s:=by
   refine wpAny_bind (wpAny_call (codeAny_call_builtin S.plain PySem.F.cmpEntry_ne (uJ I.kIn J hm (wpAny_mono entry (fun fin s1 z=>?_) fun _ _ e=>e))))
   obtain ⟨b,rfl,q1⟩:=z
   exact wpAny_pure ⟨b,rfl,q1⟩
  split
  ·exact wpAny_bind (wpAny_pure (wpAny_pure fin))
  ·exact wpAny_tryCatch (wpAny_bind (wpAny_pure (wpAny_pure fin)))
 have one:wpAny (model X.prog X.w) X.A (tryCompare (.ref p) "__ne__" u) (fun r s'=>∃ v,r=some v∧EP X pins σ Q v s') X.xe s:=by
  unfold tryCompare
  refine wpAny_bind (wpAny_mono inner (fun r s1 z=>?_) fun _ _ e=>e)
  obtain ⟨b,rfl,q1⟩:=z
  exact wpAny_pure ⟨_,rfl,q1⟩
 refine cmp_ofNotEq ?_
 unfold richCompare
 simp only [oneThing_ref]
 refine wpAny_holding (wpAny_bind (wpAny_cRoomFor (by omega) ?_))
 rw [cmpInfo_NotEq]
 dsimp only
 refine wpAny_bind (J.type.here (wpAny_bind ((oZ I ry ty).here ?_)))
 split
 ·rename_i qq
  have e:subIn X.K t (.ref C)=some false:=by
   rcases Bool.or_eq_true_iff.mp hn with e | e
   ·rw [beq_iff_eq.mp e] at qq; simp at qq
   ·exact beq_iff_eq.mp e
  refine wpAny_bind ((looks_subIn I.kIn e).here ?_)
  simp only [Bool.false_eq_true,if_false]
  refine wpAny_bind (wpAny_mono one (fun r s' z=>?_) fun _ _ e=>e)
  obtain ⟨v,rfl,hq⟩:=z
  exact wpAny_pure hq
 ·refine wpAny_bind (wpAny_pure ?_)
  simp only [Bool.false_eq_true,if_false]
  refine wpAny_bind (wpAny_mono one (fun r s' z=>?_) fun _ _ e=>e)
  obtain ⟨v,rfl,hq⟩:=z
  exact wpAny_pure hq
theorem lA (hs:findIn X.K (.ref C) "__repr__"=some (some (.ref f)))(hf:isFn X.K (.ref f)=true)(F:FnOk X.prog X.w X.K X.mg X.base CX k f fd ps sp)(hr:Room (k + 1) X.A)(hb:ay X.K fd ps [])(hx:bQ CX X E):
 cy X (.builtin "repr") (fun xs H Q=>∃ p dx fs,xs=[.ref p]∧H p=some (.ins C dx fs)∧sp [.ref p] H (fun v H'=>∃ m,v = .str m∧Q (.str m) H') E):=by
 intro pins s σ H xs us Q I r h
 obtain ⟨p,dx,fs,rfl,ep,q⟩:=h
 obtain ⟨u,rfl,ru⟩:=c0 r
 cases (show u=Value.ref p from ru)
 obtain ⟨mA,O,_⟩:=cm I.hok ep
 obtain ⟨od,J,_⟩:=O.look
 have hu:X.A.units + 64 < cLine:=hr.units
 have call1:wpAny (model X.prog X.w) X.A.in1 (call (.ref f) [.ref p]) (fun r s'=>∃ m tk,r = .str m tk∧EP X pins σ Q (.str m tk) s') X.xe s:=by
  refine wpAny_mono (qr F hr hb hx I (us:=[.ref p]) (vs:=[.ref p]) (.cons ru .nil) q) (fun r s1 ⟨z,H1,I1,rz,m,em,q1⟩=>?_) fun _ _ e=>e
  subst em
  obtain ⟨tk,rfl⟩:=(show ∃ tk,r=Value.str m tk from rz)
  exact ⟨m,tk,rfl,.str m,H1,I1,⟨tk,rfl⟩,q1⟩
 refine Calls.call_function_entry PySem.F.kind_repr PySem.F.plain_repr PySem.F.entry_repr (PySem.F.args_repr1 _) ?_
 unfold Builtin.«repr»
 refine wpAny_bind (m:=oneArg "repr" _) (wpAny_pure ?_)
 refine wpAny_bind (wpAny_cRoomFor (by show X.A.units + 1 < cLine; omega) ?_)
 refine wpAny_bind (wpAny_bind (J.type.here ((looks_findIn I.kIn hs).here ?_)))
 show wpAny _ _ (if (some (Value.ref f)).isNone=true then _ else _) _ _ _
 rw [if_neg (by simp)]
 refine wpAny_bind (m:=callSpecialIfBound? (.ref p) (Str.ofString "__repr__") _) (ifBound_K I.kIn J hs hf (wpAny_mono call1 (fun r s' hr=>?_) fun _ _ y=>y))
 obtain ⟨m,tk,rfl,hq⟩:=hr
 refine wpAny_bind (wpAny_isInstance (typeIs_str _ _ _) isSubtype_str_str ?_)
 first
  | exact wpAny_pure ⟨_,rfl,hq⟩
  | (rw [if_pos rfl]; exact wpAny_pure ⟨_,rfl,hq⟩)
  | (simp only [if_true]; exact wpAny_pure ⟨_,rfl,hq⟩)
end
section
variable {X:Cx}{pos:Pos}
def PJ (X:Cx)(es:List Expr)(t:Str->TE):Prop:=∀ (out:Str)(pins:List (Addr × Obj))(s:Shared)(σ:St)(H:Hp)(Q:VK),Inv X pins σ H s->t out σ H Q->wpAny (model X.prog X.w) X.A (joinParts out (evalEach es X.env)) (EP X pins σ Q) X.xe s
def jNil:Str->TE:=fun out _ H Q=>out.length≤sizeLine∧Q (.str out) H
def zC (te:TE)(t:Str->TE):Str->TE:=fun out σ H Q=>te σ H fun v H1=>∃ y,v = .str y∧(out++y).length≤sizeLine∧t (out++y) σ H1 Q
theorem oP:PJ X [] jNil:=fun out pins s σ H Q I h=>joinParts_nil ⟨.str out,H,I.tok _,⟨_,rfl⟩,h.2⟩ h.1
theorem cB {e:Expr}{es:List Expr}{te:TE}{t:Str->TE}(he:PE X e te)(hr:PJ X es t)(hs:evalEach (e :: es) X.env=eval e X.env :: evalEach es X.env:=by rfl):PJ X (e :: es) (zC te t):=by
 intro out pins s σ H Q I h
 rw [hs]
 refine joinParts_cons (br (he pins s σ H _ I h) fun v s1 ⟨x,H1,I1,r1,y,ey,hl,q1⟩=>?_)
 subst ey
 obtain ⟨tk,rfl⟩:=(show ∃ tk,v=Value.str y tk from r1)
 exact ⟨hl,hr (out++y) pins s1 σ H1 Q I1 q1⟩
theorem ko {e1 e2:Expr}{es:List Expr}{t:Str->TE}(h:PJ X (e1 :: e2 :: es) t)(hs:evalEach (e1 :: e2 :: es) X.env=eval e1 X.env :: eval e2 X.env :: evalEach es X.env:=by rfl):PE X (.JoinedStr (e1 :: e2 :: es) pos) (t Str.empty):=by
 intro pins s σ H Q I hq
 have z:=h Str.empty pins s σ H Q I hq
 rw [hs] at z
 exact JoinedStr_many z
def zS (te:TE):TE:=fun σ H Q=>te σ H fun v H1=>∃ i:Int,v = .int i∧i.natAbs.log2 < 1920∧Q (.str (toString i)) H1
theorem qk {e:Expr}{te:TE}(he:PE X e te):PE X (.FormattedValue e (-1) none pos) (zS te):=by
 intro pins s σ H Q I h
 refine FormattedValue_plain (br (he pins s σ H _ I h) fun v s1 ⟨x,H1,I1,r1,i,ei,hb,q1⟩=>?_)
 subst ei
 obtain ⟨tk,rfl⟩:=(show ∃ tk,v=Value.int i tk from r1)
 exact formatField_int_small hb ⟨.str (toString i),H1,I1.tok _,⟨_,rfl⟩,q1⟩
end
section
variable {X:Cx}
def yI (K:PySem.W.Frag):R2:=fun x y H Q=>∃ p q xs,x = .ref p∧y = .ref q∧a7 K H p xs∧a7 K H q []∧Q (.bl (decide (xs=[]))) H
theorem vE {k:Nat}(hr:Room k X.A):dz X (compareOp .Eq) (yI X.K):=by
 intro pins s σ H x y v u Q I rx ry h
 obtain ⟨p,q,xs,rfl,rfl,h1,h2,w⟩:=h
 cases (show v=Value.ref p from rx)
 cases (show u=Value.ref q from ry)
 obtain ⟨its,r1,p1,_⟩:=I.list h1
 obtain ⟨its2,r2,p2,_⟩:=I.list h2
 cases r2
 by_cases e:xs=[]
 ·subst e
  cases r1
  refine SeqAt.eq_listAt (e:=fun _=>true) p1.isList p2.isList rfl hr.units0 (fun j a b=>absurd a (by simp)) ⟨.bl true,H,I,?_,by simpa using w⟩
  rfl
 ·refine SeqAt.eq_list_lengthsAt p1.isList p2.isList ?_ hr.units0 ⟨.bl false,H,I,rfl,by simpa [e] using w⟩
  have hl:=r1.length
  have hx:xs.length≠0:=fun z=>e (List.eq_nil_of_length_eq_zero z)
  have:its.toArray.size≠0:=by rw [List.size_toArray]; omega
  simpa using this
end
def ui (tabs:List (Addr × Addr))(H:Hp):Prop:=(∀ b,H b=none∨(∃ o xs,H b=some (.frz o (.lst xs)))∨(H b=some (.tbl #[])∧∃ c,(c,b)∈tabs))∧∀ q∈tabs,H q.2=some (.tbl #[])
structure BaseT (tabs:List (Addr × Addr))(mg:Str->Option Value)(base:Heap):Prop where
 hd:∀ q∈tabs,CodeHd base q.1 q.2
 bm:∃ bm ob,mg "__builtins__"=some (.ref bm)∧bm≠builtinsNs∧base.get? bm=some ob∧ob.cls = .type "module"∧ob.dict=some builtinsNs∧ob.data = .plain
theorem rj {P:Program}{w:World}{K:Frag}{mg mb:Str->Option Value}{CX:CXT}{k:Nat}{fa a:Addr}{fd:FuncData}{x:Str}{sp:Sp}{s₁:Shared}{vs:List Value}{ns:List Int}{tabs:List (Addr × Addr)}
 (KX:K.In s₁.heap)(hns:s₁.heap.Ns mainGlobals mg)(hb:s₁.heap.Ns builtinsNs mb)(hbb:∀ x:Str,x ≠ "__name__"->mb x=bootBuiltins x)(hlim:s₁.heap.NoLimit)(hg:s₁.gens = #[])
 (ha:s₁.heap.get? a=some { cls:=.type "list",data:=.seq vs.toArray })(hi:IntsAre vs ns)(hl:ns.length≤sizeLine)(hr:Room k callerA)(hT:TabsAt tabs s₁.heap)(hKT:∀ q∈tabs,K.lookup q.2=none)
 (hbm:∃ bm ob,mg "__builtins__"=some (.ref bm)∧bm≠builtinsNs∧s₁.heap.get? bm=some ob∧ob.cls = .type "module"∧ob.dict=some builtinsNs∧ob.data = .plain)
 (F:∀ base:Heap,K.In base->base.Ns mainGlobals mg->BaseT tabs mg base->FnOk P w K mg base CX k fa fd [x] sp)(hbind:∀ (s:Shared)(u:Value),BindsTo s fd ⟨[u],[]⟩ [(x,u)])
 (hsp:∀ H:Hp,ui tabs H->a7 K H a (ns.map V.int)->sp [.ref a] H (fun v _=>v = .bl true) fun _ _ _=>False)
 (hCX:∀ H e s',CX [] H s₁ (fun _ _ _=>False) e s'->False):
 codeAny (model P w) callerA (.call (.ref fa) ⟨[.ref a],[]⟩) (fun r s'=>r = .ok (.ret (.bool true))∧OldK s₁.heap s'.heap∧s'.os=s₁.os∧AllBare s'.gens) s₁:=by
 have rv:=kj hi
 have lenV:=hi.length
 have oE:∀ b,(∃ c,(c,b)∈tabs)->s₁.heap.get? b=some (tabObj #[]):=fun b ⟨c,hc⟩=>(hT _ hc).2
 have core:∀ H:Hp,ui tabs H->a7 K H a (ns.map V.int)->dY P w H s₁.heap->(∀ b,H b≠none->b=a∨∃ c,(c,b)∈tabs)->(H a≠none->K.lookup a=none) →
  codeAny (model P w) callerA (.call (.ref fa) ⟨[.ref a],[]⟩) (fun r s'=>r = .ok (.ret (.bool true))∧OldK s₁.heap s'.heap∧s'.os=s₁.os∧AllBare s'.gens) s₁:=by
  intro H hO hS hok hA hK
  have base_of:∀ {b:Addr}{o:Obj},s₁.heap.get? b=some o->H b=none->(jA s₁.heap H).get? b=some o:=fun e n=>vt e n
  have noO:∀ {b:Addr}{o:Obj},s₁.heap.get? b=some o->o.cls ≠ .none->(∀ its n,o.data ≠ .seq its n)->H b=none:=fun {b o} e d1 d2=>by
   cases q:H b with
   | none=>rfl
   | some u =>
     rcases hA b (by rw [q]; simp) with e' | e'
     ·subst e'
      rw [ha] at e; cases e
      exact absurd rfl (d2 _ _)
     ·rw [oE b e'] at e; cases e
      exact absurd rfl d1
  have noA:∀ {b:Addr}{o:Obj}{es:Array DictEntry}{ep:Nat},s₁.heap.get? b=some o->o.data = .dict es ep->H b=none:=fun {b o es ep} e d=>by
   cases q:H b with
   | none=>rfl
   | some u =>
     rcases hA b (by rw [q]; simp) with e' | e'
     ·subst e'
      rw [ha] at e; cases e
      have d':Data.seq vs.toArray _=Data.dict es ep:=d
      cases d'
     ·rw [oE b e'] at e; cases e
      have d':Data.fields #[]=Data.dict es ep:=d
      cases d'
  have nsK:∀ {b:Addr}{m:Str->Option Value},s₁.heap.Ns b m->(jA s₁.heap H).Ns b m:=fun {b m} ⟨o,es,ep,e,d,r⟩=>⟨o,es,ep,base_of e (noA e d),d,r⟩
  have hKb:K.In (jA s₁.heap H):=fun b o e=>base_of (KX b o e) (by
   cases q:H b with
   | none=>rfl
   | some u =>
     rcases hA b (by rw [q]; simp) with e' | ⟨c,e'⟩
     ·subst e'
      rw [hK (by rw [q]; simp)] at e; cases e
     ·have z:=hKT _ e'
      rw [z] at e; cases e)
  have hM:Mod K mg (jA s₁.heap H):=⟨hKb,nsK hns,⟨mb,nsK hb,hbb⟩,let ⟨mc,h1,h2⟩:=hlim; ⟨mc,nsK h1,h2⟩⟩
  have hBT:BaseT tabs mg (jA s₁.heap H):=by
   refine ⟨fun q hq=>?_,?_⟩
   ·obtain ⟨o,ws,file,tf,flags,tg,inF,text,tt,e1,r1,r2,r3⟩:=(hT q hq).1
    exact ⟨o,ws,file,tf,flags,tg,inF,text,tt,base_of e1 (noO e1 (by rw [r1]; intro z; cases z) (fun its n z=>by rw [r2] at z; cases z)),r1,r2,r3⟩
   ·obtain ⟨bm,ob,b1,b2,b3,b4,b5,b6⟩:=hbm
    exact ⟨bm,ob,b1,b2,base_of b3 (noO b3 (by rw [b4]; intro z; cases z) (fun its n z=>by rw [b6] at z; cases z)),b4,b5,b6⟩
  have e0:Env0 P w K mg (jA s₁.heap H) callerA [] s₁ H:=⟨rfl,hM,fun b o e=>w8 e,Nat.le_of_eq (tH _ _),trivial,fun b hb=>absurd (show b∈([]:List Addr) from hb) (by simp),hok,.of_eq hg⟩
  refine codeAny_mono ((F _ hKb (nsK hns) hBT).run callerA [] s₁ H ⟨[.ref a],[]⟩ [.ref a] [.ref a] _ _ hr e0 (hbind s₁ (.ref a)) (.cons rfl .nil) (hsp H hO hS)) fun r s' h=>?_
  cases r with
  | error e=>exact (hCX H e s' h).elim
  | ok fl =>
    cases fl with
    | next=>exact False.elim h
    | brk=>exact False.elim h
    | cont=>exact False.elim h
    | ret u =>
      obtain ⟨v,H',os,bare,un,hok',r',q⟩:=h
      have q':v = .bl true:=q
      subst q'
      obtain rfl:u=Value.bool true:=r'
      refine ⟨rfl,⟨fun b o e=>?_,fun b o e=>un.there b o e (by simp)⟩,os,bare⟩
      cases q:H b with
      | none=>exact .inl (un.keep b o e q (by intro z; exact absurd (show b∈([]:List Addr) from z) (by simp)) (by simp))
      | some u =>
        rcases hO.1 b with z | ⟨ob,xs,z⟩ | ⟨z,c,hc⟩
        ·rw [q] at z; cases z
        ·have z2:=un.frzs b ob _ z
         obtain ⟨e1,_⟩:=hok b _ z
         obtain ⟨e2,_⟩:=hok' b _ z2
         rw [e] at e1; cases e1
         exact .inl e2
        ·obtain ⟨more,z2⟩:=un.tbls b _ z
         have e2:s'.heap.get? b=some { cls:=.none,data:=.fields (#[]++more) }:=hok' b _ z2
         have e1:=oE b ⟨c,hc⟩
         rw [e] at e1; cases e1
         exact .inr (.inl ⟨((hT _ hc).1.tab (hT _ hc).2).isCodeTable,rfl,#[],more,rfl,e2⟩)
 have aT:∀ c,(c,a) ∉ tabs:=fun c hc=>by
  have z:=oE a ⟨c,hc⟩
  rw [ha] at z
  cases z
 have memT:∀ b,Decidable (∃ c,(c,b)∈tabs):=fun b=>Classical.propDecidable _
 cases hk:K.lookup a with
 | some o =>
   have e:=KX a o hk
   rw [ha] at e
   cases e
   refine core (fun b=>@ite _ (∃ c,(c,b)∈tabs) (memT b) (some (.tbl #[])) none) ⟨fun b=>?_,fun q hq=>?_⟩ (.inr ⟨_,vs.toArray,_,hk,rfl,rfl,rfl,by rw [List.size_toArray,lenV]; exact hl,by simpa using rv⟩) (fun b u z=>?_) (fun b z=>?_) fun z=>?_
   ·by_cases hb:∃ c,(c,b)∈tabs
    ·exact .inr (.inr ⟨if_pos hb,hb⟩)
    ·exact .inl (if_neg hb)
   ·exact if_pos ⟨q.1,hq⟩
   ·by_cases hb:∃ c,(c,b)∈tabs
    ·have z':=(if_pos hb).symm.trans z
     cases z'
     exact oE b hb
    ·have z':=(if_neg hb).symm.trans z
     cases z'
   ·by_cases hb:∃ c,(c,b)∈tabs
    ·exact .inr hb
    ·exact absurd (if_neg hb) z
   ·exact absurd (if_neg fun ⟨c,hc⟩=>aT c hc) z
 | none =>
   refine core (fun b=>if b=a then some (.frz { cls:=.type "list",data:=.seq vs.toArray } (.lst (ns.map V.int))) else @ite _ (∃ c,(c,b)∈tabs) (memT b) (some (.tbl #[])) none) ⟨fun b=>?_,fun q hq=>?_⟩ (.inl (.inr ⟨{ cls:=.type "list",data:=.seq vs.toArray },if_pos rfl⟩)) (fun b u z=>?_) (fun b z=>?_) fun _=>hk
   ·by_cases hb:b=a
    ·exact .inr (.inl ⟨_,_,if_pos hb⟩)
    ·by_cases ht:∃ c,(c,b)∈tabs
     ·exact .inr (.inr ⟨(if_neg hb).trans (if_pos ht),ht⟩)
     ·exact .inl ((if_neg hb).trans (if_neg ht))
   ·have hb:q.2≠a:=fun z=>aT q.1 (by rw [← z]; exact hq)
    exact (if_neg hb).trans (if_pos ⟨q.1,hq⟩)
   ·by_cases hb:b=a
    ·have z':=(if_pos hb).symm.trans z
     cases z'
     subst hb
     exact ⟨ha,by rw [List.length_map]; exact hl,vs,_,rv,ha⟩
    ·have z':=(if_neg hb).symm.trans z
     by_cases ht:∃ c,(c,b)∈tabs
     ·have z2:=(if_pos ht).symm.trans z'
      cases z2
      exact oE b ht
     ·have z2:=(if_neg ht).symm.trans z'
      cases z2
   ·by_cases hb:b=a
    ·exact .inl hb
    ·by_cases ht:∃ c,(c,b)∈tabs
     ·exact .inr ht
     ·exact absurd ((if_neg hb).trans (if_neg ht)) z
structure FunD (K:Frag)(x qual:Str)(st:Stmt)(f:Addr)(fd:FuncData)(T:Addr):Prop where
 ex:∃ (oc:Value)(od:Option Addr)(kV doc pm:Value)(an:Option Addr)(cdv ct:Value)(osl:Array (Option Value)),
  fd=fnOf x qual (cC st) (bV st) (ao st) (.ref T) kV doc pm an cdv ct∧K.lookup f=some ⟨oc,od,.func fd,osl⟩∧codeIn K cdv qual=true
 kp:keepIn K (.ref f)=true
section
variable {P:Program}{w:World}{K:Frag}{mg:Str->Option Value}{base:Heap}
theorem FunD.okE {x qual:Str}{st:Stmt}{f T:Addr}{fd:FuncData}{N ps:List Str}{k:Nat}{sp:Sp}(F:FunD K x qual st f fd T)(S:FnScope N ps (ao st))(len:∀ vs H Q E,sp vs H Q E->vs.length=ps.length)
 (hbody:∀ (cdv:Value)(A:Around)(outer:List Env)(s:Shared)(H:Hp)(vs:List V)(Q:VK)(E:XK),Room k (A.deeper (envOfC qual (ao st) s.heap.objs.size f cdv))->sp vs H Q E →
  ∃ t,ju (ff (bh P w) P w K mg base N qual (ao st) f cdv A outer s H E) (bV st) t∧t { nx:=fun _ H'=>Q .non H',rt:=Q } (fY N vs) H):FnOk P w K mg base (bh P w) (k + 1) f fd ps sp:=by
 obtain ⟨oc,od,kV,doc,pm,an,cdv,ct,osl,rfl,lk,hcd⟩:=F.ex
 exact xT lk hcd S len fun A outer s H vs Q E hr hsp=>hbody cdv A outer s H vs Q E hr hsp
theorem xo {x qual:Str}{st:Stmt}{f T:Addr}{oc:Value}{od an:Option Addr}{osl:Array (Option Value)}{kV doc pm cdv ct:Value}(l:K.lookup f=some ⟨oc,od,.func (fnOf x qual (cC st) (bV st) (ao st) (.ref T) kV doc pm an cdv ct),osl⟩)
 (c:codeIn K cdv qual=true)(k:keepIn K (.ref f)=true):FunD K x qual st f (fnOf x qual (cC st) (bV st) (ao st) (.ref T) kV doc pm an cdv ct) T:=⟨⟨oc,od,kV,doc,pm,an,cdv,ct,osl,rfl,l,c⟩,k⟩
end
def eT:Expr->Bool
 | .Starred _ _=>true
 | _=>false
theorem bu {e:Expr}{rest:List Expr}{env:Env}(h:eT e=false):starEach (e :: rest) env=(false,eval e env):: starEach rest env:=by
 rw [starEach]
 intro e' p z
 subst z
 cases h
section
variable {X:Cx}{e:Expr}{es:List Expr}{te:TE}{t:TA}
theorem aj (ha:PE X e te)(hr:PA X es t)(h:eT e=false:=by rfl):PA X (e :: es) (cG te t):=b8 ha hr (bu h)
end
inductive D where
 | non | bl (b:Bool) | int (i:Int) | str (x:Str) | lst (ds:List D) | tup (ds:List D)
mutual
def aF (K:Frag)(H:Hp):D->V->Prop
 | .non,v=>v = .non
 | .bl b,v=>v = .bl b
 | .int i,v=>v = .int i
 | .str x,v=>v = .str x
 | .lst ds,v=>∃ a xs,v = .ref a∧a7 K H a xs∧aV K H ds xs
 | .tup ds,v=>∃ a xs,v = .ref a∧bg K H a xs∧aV K H ds xs
def aV (K:Frag)(H:Hp):List D->List V->Prop
 | [],xs=>xs=[]
 | d :: ds,xs=>∃ y ys,xs=y :: ys∧aF K H d y∧aV K H ds ys
end
mutual
def cT:D->D->Bool
 | .non,.non=>true
 | .bl a,.bl b=>a == b
 | .bl a,.int b=>(if a then 1 else 0) == b
 | .int a,.bl b=>a == (if b then 1 else 0)
 | .int a,.int b=>a == b
 | .str a,.str b=>a == b
 | .lst a,.lst b=>cD a b
 | .tup a,.tup b=>cD a b
 | _,_=>false
def cD:List D->List D->Bool
 | [],[]=>true
 | a :: as,b :: bs=>cT a b&&cD as bs
 | _,_=>false
end
mutual
def iX:D->Nat
 | .lst ds=>dt ds + 1
 | .tup ds=>dt ds + 1
 | _=>0
def dt:List D->Nat
 | []=>0
 | d :: ds=>max (iX d) (dt ds)
end
theorem ql:∀ {ds:List D}{d:D},d∈ds->iX d≤dt ds
 | e :: ds,d,h=>by
   unfold dt
   rcases List.mem_cons.mp h with rfl | h
   ·exact Nat.le_max_left _ _
   ·exact Nat.le_trans (ql h) (Nat.le_max_right _ _)
theorem eU:∀ (as bs:List D),cD as bs=((List.range (min as.length bs.length)).all (fun j=>cT (as.getD j .non) (bs.getD j .non))&&as.length == bs.length)
 | [],[]=>rfl
 | [],b :: bs=>by simp [cD]
 | a :: as,[]=>by simp [cD]
 | a :: as,b :: bs=>by
   unfold cD
   rw [eU as bs]
   have e:min (a :: as).length (b :: bs).length=min as.length bs.length + 1:=by simp [Nat.succ_min_succ]
   rw [e,List.range_succ_eq_map,List.all_cons,List.all_map]
   have h1:((a :: as).length == (b :: bs).length)=(as.length == bs.length):=by simp
   rw [h1,Bool.and_assoc]
   rfl
theorem aV.len {K:Frag}{H:Hp}:∀ {ds:List D}{xs:List V},aV K H ds xs->ds.length=xs.length
 | [],xs,h=>by
   have h:xs=[]:=by unfold aV at h; exact h
   rw [h]
   rfl
 | d :: ds,xs,h=>by
   unfold aV at h
   obtain ⟨y,ys,rfl,_,h⟩:=h
   simp [aV.len h]
theorem aV.get {K:Frag}{H:Hp}:∀ {ds:List D}{xs:List V}{j:Nat}(hj:j < xs.length),aV K H ds xs->aF K H (ds.getD j .non) xs[j]∧ds.getD j .non∈ds
 | [],xs,j,hj,h=>by
   have h:xs=[]:=by unfold aV at h; exact h
   subst h
   exact absurd hj (by simp)
 | d :: ds,xs,j,hj,h=>by
   unfold aV at h
   obtain ⟨y,ys,rfl,hd,h⟩:=h
   cases j with
   | zero=>exact ⟨hd,List.mem_cons_self⟩
   | succ j =>
     obtain ⟨h1,h2⟩:=aV.get (j:=j) (by simpa using hj) h
     exact ⟨h1,List.mem_cons_of_mem _ h2⟩
mutual
theorem fN:∀ d:D,cT d d=true
 | .non=>rfl
 | .bl b=>by unfold cT; simp
 | .int i=>by unfold cT; simp
 | .str x=>by unfold cT; simp
 | .lst ds=>by unfold cT; exact gC ds
 | .tup ds=>by unfold cT; exact gC ds
theorem gC:∀ ds:List D,cD ds ds=true
 | []=>rfl
 | d :: ds=>by unfold cD; rw [fN d,gC ds]; rfl
end
section
variable {X:Cx}{pins:List (Addr × Obj)}{σ:St}{H:Hp}{s:Shared}
theorem dW (I:Inv X pins σ H s){a:Addr}{xs ys:List V}(h1:a7 X.K H a xs)(h2:bg X.K H a ys):False:=by
 obtain ⟨its,_,p1,_⟩:=I.list h1
 obtain ⟨its2,_,p2,_⟩:=I.tuple h2
 exact SeqAt.ne_of_list_tuple p1.isList (show s.heap.IsTuple a its2.toArray from p2) rfl
mutual
theorem ji (I:Inv X pins σ H s):∀ (d e:D)(v:V),aF X.K H d v->aF X.K H e v->cT d e=true
 | .non,e,v,h1,h2=>by
   unfold aF at h1
   subst h1
   cases e <;> unfold aF at h2 <;> first | (obtain ⟨_,_,z,_⟩:=h2; cases z; done) | rfl | (cases h2; done)
 | .bl b,e,v,h1,h2=>by
   unfold aF at h1
   subst h1
   cases e <;> unfold aF at h2 <;> first | (obtain ⟨_,_,z,_⟩:=h2; cases z; done) | (cases h2; exact fN _) | (cases h2; done)
 | .int b,e,v,h1,h2=>by
   unfold aF at h1
   subst h1
   cases e <;> unfold aF at h2 <;> first | (obtain ⟨_,_,z,_⟩:=h2; cases z; done) | (cases h2; exact fN _) | (cases h2; done)
 | .str b,e,v,h1,h2=>by
   unfold aF at h1
   subst h1
   cases e <;> unfold aF at h2 <;> first | (obtain ⟨_,_,z,_⟩:=h2; cases z; done) | (cases h2; exact fN _) | (cases h2; done)
 | .lst ds,e,v,h1,h2=>by
   unfold aF at h1
   obtain ⟨a,xs,rfl,q,r⟩:=h1
   cases e with
   | lst es =>
     unfold aF at h2
     obtain ⟨b,ys,z,q2,r2⟩:=h2
     cases z
     have e:=I.list_inj q q2
     subst e
     unfold cT
     exact gG I ds es xs r r2
   | tup es =>
     unfold aF at h2
     obtain ⟨b,ys,z,q2,r2⟩:=h2
     cases z
     exact (dW I q q2).elim
   | _=>unfold aF at h2; cases h2
 | .tup ds,e,v,h1,h2=>by
   unfold aF at h1
   obtain ⟨a,xs,rfl,q,r⟩:=h1
   cases e with
   | tup es =>
     unfold aF at h2
     obtain ⟨b,ys,z,q2,r2⟩:=h2
     cases z
     have e:=I.tuple_inj q q2
     subst e
     unfold cT
     exact gG I ds es xs r r2
   | lst es =>
     unfold aF at h2
     obtain ⟨b,ys,z,q2,r2⟩:=h2
     cases z
     exact (dW I q2 q).elim
   | _=>unfold aF at h2; cases h2
theorem gG (I:Inv X pins σ H s):∀ (ds es:List D)(xs:List V),aV X.K H ds xs->aV X.K H es xs->cD ds es=true
 | [],es,xs,h1,h2=>by
   unfold aV at h1
   subst h1
   cases es with
   | nil=>rfl
   | cons e es=>unfold aV at h2; obtain ⟨_,_,z,_⟩:=h2; cases z
 | d :: ds,es,xs,h1,h2=>by
   unfold aV at h1
   obtain ⟨y,ys,rfl,hd,h1⟩:=h1
   cases es with
   | nil=>unfold aV at h2; cases h2
   | cons e es =>
     unfold aV at h2
     obtain ⟨_,_,z,he,h2⟩:=h2
     cases z
     unfold cD
     rw [ji I d e y hd he,gG I ds es ys h1 h2]
     rfl
end
theorem iq (I:Inv X pins σ H s)(n:Nat)(ih:n≠0->∀ (A:Around)(d e:D)(x y:V)(u v:Value),iX d≤n - 1->A.units + (n - 1) < cLine->aF X.K H d x->aF X.K H e y->aC x u->aC y v->SeqAt.EqAt A s u v (cT d e))
 (hn0:n≠0)(A:Around)(hu:A.units + n < cLine){ds es:List D}{xs ys:List V}{its its2:List Value}(r1:aV X.K H ds xs)(r2:aV X.K H es ys)(rv:aI xs its)(rv2:aI ys its2)(hn:dt ds≤n - 1):
 ∀ j (h1:j < its.toArray.size)(h2:j < its2.toArray.size),SeqAt.EqAt A.in1 s its.toArray[j] its2.toArray[j] (cT (ds.getD j .non) (es.getD j .non)):=by
 intro j h1 h2
 have e1:j < xs.length:=by rw [rv.length]; simpa using h1
 have e2:j < ys.length:=by rw [rv2.length]; simpa using h2
 obtain ⟨d1,m1⟩:=r1.get e1
 obtain ⟨d2,m2⟩:=r2.get e2
 obtain ⟨u,hu1,ru⟩:=rv.get (List.getElem?_eq_getElem e1)
 obtain ⟨v,hv1,rv'⟩:=rv2.get (List.getElem?_eq_getElem e2)
 have z1:its.toArray[j]=u:=by
  have:=List.getElem?_eq_some_iff.mp hu1
  obtain ⟨_,q⟩:=this
  simpa using q
 have z2:its2.toArray[j]=v:=by
  have:=List.getElem?_eq_some_iff.mp hv1
  obtain ⟨_,q⟩:=this
  simpa using q
 rw [z1,z2]
 exact ih hn0 A.in1 _ _ _ _ _ _ (Nat.le_trans (ql m1) hn) (by show A.units + 1 + (n - 1) < cLine; omega) d1 d2 ru rv'
theorem jV (I:Inv X pins σ H s)(n:Nat)(ih:n≠0->∀ (A:Around)(d e:D)(x y:V)(u v:Value),iX d≤n - 1->A.units + (n - 1) < cLine->aF X.K H d x->aF X.K H e y->aC x u->aC y v->SeqAt.EqAt A s u v (cT d e))
 (A:Around)(d e:D)(x y:V)(u v:Value)(hn:iX d≤n)(hu:A.units + n < cLine)(h1:aF X.K H d x)(h2:aF X.K H e y)(rx:aC x u)(ry:aC y v):
 SeqAt.RcAt A s u v (cT d e)∧SeqAt.EqAt A s u v (cT d e)∧SeqAt.RcNeAt A s u v (!cT d e):=by
 have hu0:A.units < cLine:=by omega
 cases d with
 | non =>
   unfold aF at h1
   subst h1
   cases rx
   cases e with
   | non =>
     unfold aF at h2
     subst h2
     cases ry
     exact ⟨.none_none,.same _,.none_none⟩
   | bl q =>
     unfold aF at h2
     subst h2
     cases ry
     exact ⟨.none_bool q,.none_bool q,.none_bool q⟩
   | int q =>
     unfold aF at h2
     subst h2
     obtain ⟨tq,rfl⟩:=ry
     exact ⟨.none_int q tq,.none_int q tq,.none_int q tq⟩
   | str q =>
     unfold aF at h2
     subst h2
     obtain ⟨tq,rfl⟩:=ry
     exact ⟨.none_str q tq,.none_str q tq,.none_str q tq⟩
   | lst es =>
     unfold aF at h2
     obtain ⟨b,ys,rfl,q2,r2⟩:=h2
     cases ry
     obtain ⟨its2,rv2,p2,_⟩:=I.list q2
     exact ⟨.none_list  p2.isList hu0,.none_list  p2.isList hu0,.none_list  p2.isList hu0⟩
   | tup es =>
     unfold aF at h2
     obtain ⟨b,ys,rfl,q2,r2⟩:=h2
     cases ry
     obtain ⟨its2,rv2,p2,_⟩:=I.tuple q2
     have p2:s.heap.IsTuple b its2.toArray:=p2
     exact ⟨.none_tuple  p2 hu0,.none_tuple  p2 hu0,.none_tuple  p2 hu0⟩
 | bl p =>
   unfold aF at h1
   subst h1
   cases rx
   cases e with
   | non =>
     unfold aF at h2
     subst h2
     cases ry
     exact ⟨.bool_none p,.bool_none p,.bool_none p⟩
   | bl q =>
     unfold aF at h2
     subst h2
     cases ry
     unfold cT
     exact ⟨.bool_bool p q,.bool_bool p q,.bool_bool p q⟩
   | int q =>
     unfold aF at h2
     subst h2
     obtain ⟨tq,rfl⟩:=ry
     unfold cT
     exact ⟨.bool_int p q tq,.bool_int p q tq,.bool_int p q tq⟩
   | str q =>
     unfold aF at h2
     subst h2
     obtain ⟨tq,rfl⟩:=ry
     exact ⟨.bool_str p q tq,.bool_str p q tq,.bool_str p q tq⟩
   | lst es =>
     unfold aF at h2
     obtain ⟨b,ys,rfl,q2,r2⟩:=h2
     cases ry
     obtain ⟨its2,rv2,p2,_⟩:=I.list q2
     exact ⟨.bool_list p p2.isList hu0,.bool_list p p2.isList hu0,.bool_list p p2.isList hu0⟩
   | tup es =>
     unfold aF at h2
     obtain ⟨b,ys,rfl,q2,r2⟩:=h2
     cases ry
     obtain ⟨its2,rv2,p2,_⟩:=I.tuple q2
     have p2:s.heap.IsTuple b its2.toArray:=p2
     exact ⟨.bool_tuple p p2 hu0,.bool_tuple p p2 hu0,.bool_tuple p p2 hu0⟩
 | int p =>
   unfold aF at h1
   subst h1
   obtain ⟨tp,rfl⟩:=rx
   cases e with
   | non =>
     unfold aF at h2
     subst h2
     cases ry
     exact ⟨.int_none p tp,.int_none p tp,.int_none p tp⟩
   | bl q =>
     unfold aF at h2
     subst h2
     cases ry
     unfold cT
     exact ⟨.int_bool p tp q,.int_bool p tp q,.int_bool p tp q⟩
   | int q =>
     unfold aF at h2
     subst h2
     obtain ⟨tq,rfl⟩:=ry
     unfold cT
     exact ⟨.int_int p tp q tq,.int_int p tp q tq,.int_int p tp q tq⟩
   | str q =>
     unfold aF at h2
     subst h2
     obtain ⟨tq,rfl⟩:=ry
     exact ⟨.int_str p tp q tq,.int_str p tp q tq,.int_str p tp q tq⟩
   | lst es =>
     unfold aF at h2
     obtain ⟨b,ys,rfl,q2,r2⟩:=h2
     cases ry
     obtain ⟨its2,rv2,p2,_⟩:=I.list q2
     exact ⟨.int_list p tp p2.isList hu0,.int_list p tp p2.isList hu0,.int_list p tp p2.isList hu0⟩
   | tup es =>
     unfold aF at h2
     obtain ⟨b,ys,rfl,q2,r2⟩:=h2
     cases ry
     obtain ⟨its2,rv2,p2,_⟩:=I.tuple q2
     have p2:s.heap.IsTuple b its2.toArray:=p2
     exact ⟨.int_tuple p tp p2 hu0,.int_tuple p tp p2 hu0,.int_tuple p tp p2 hu0⟩
 | str p =>
   unfold aF at h1
   subst h1
   obtain ⟨tp,rfl⟩:=rx
   cases e with
   | non =>
     unfold aF at h2
     subst h2
     cases ry
     exact ⟨.str_none p tp,.str_none p tp,.str_none p tp⟩
   | bl q =>
     unfold aF at h2
     subst h2
     cases ry
     exact ⟨.str_bool p tp q,.str_bool p tp q,.str_bool p tp q⟩
   | int q =>
     unfold aF at h2
     subst h2
     obtain ⟨tq,rfl⟩:=ry
     exact ⟨.str_int p tp q tq,.str_int p tp q tq,.str_int p tp q tq⟩
   | str q =>
     unfold aF at h2
     subst h2
     obtain ⟨tq,rfl⟩:=ry
     unfold cT
     exact ⟨.str_str p tp q tq,.str_str p tp q tq,.str_str p tp q tq⟩
   | lst es =>
     unfold aF at h2
     obtain ⟨b,ys,rfl,q2,r2⟩:=h2
     cases ry
     obtain ⟨its2,rv2,p2,_⟩:=I.list q2
     exact ⟨.str_list p tp p2.isList hu0,.str_list p tp p2.isList hu0,.str_list p tp p2.isList hu0⟩
   | tup es =>
     unfold aF at h2
     obtain ⟨b,ys,rfl,q2,r2⟩:=h2
     cases ry
     obtain ⟨its2,rv2,p2,_⟩:=I.tuple q2
     have p2:s.heap.IsTuple b its2.toArray:=p2
     exact ⟨.str_tuple p tp p2 hu0,.str_tuple p tp p2 hu0,.str_tuple p tp p2 hu0⟩
 | lst ds =>
   unfold aF at h1
   obtain ⟨a,xs,rfl,q1,r1⟩:=id h1
   cases rx
   obtain ⟨its,rv,p1,_⟩:=I.list q1
   have p1:s.heap.IsList a its.toArray:=p1.isList
   cases e with
   | non =>
     unfold aF at h2
     subst h2
     cases ry
     exact ⟨.list_none  p1 hu0,.list_none  p1 hu0,.list_none  p1 hu0⟩
   | bl q =>
     unfold aF at h2
     subst h2
     cases ry
     exact ⟨.list_bool q p1 hu0,.list_bool q p1 hu0,.list_bool q p1 hu0⟩
   | int q =>
     unfold aF at h2
     subst h2
     obtain ⟨tq,rfl⟩:=ry
     exact ⟨.list_int q tq p1 hu0,.list_int q tq p1 hu0,.list_int q tq p1 hu0⟩
   | str q =>
     unfold aF at h2
     subst h2
     obtain ⟨tq,rfl⟩:=ry
     exact ⟨.list_str q tq p1 hu0,.list_str q tq p1 hu0,.list_str q tq p1 hu0⟩
   | lst es =>
     unfold aF at h2
     obtain ⟨b,ys,rfl,q2,r2⟩:=id h2
     cases ry
     obtain ⟨its2,rv2,p2,_⟩:=I.list q2
     have p2:s.heap.IsList b its2.toArray:=p2.isList
     have el:=iq I n ih (by unfold iX at hn; omega) A hu r1 r2 rv rv2 (by unfold iX at hn; omega)
     have l1:its.toArray.size=ds.length:=by rw [List.size_toArray,← rv.length,r1.len]
     have l2:its2.toArray.size=es.length:=by rw [List.size_toArray,← rv2.length,r2.len]
     have dr:=eU ds es
     have key:SeqAt.RcAt A s (.ref a) (.ref b) (cD ds es)∧SeqAt.RcNeAt A s (.ref a) (.ref b) (!cD ds es):=by
      by_cases hl:ds.length=es.length
      ·have hs:its.toArray.size=its2.toArray.size:=by rw [l1,l2,hl]
       have z:(List.range its.toArray.size).all (fun j=>cT (ds.getD j .non) (es.getD j .non))=cD ds es:=by rw [dr,l1,hl]; simp
       have c1:=SeqAt.RcAt.lists p1 p2 hs hu0 el
       have c2:=SeqAt.RcNeAt.lists p1 p2 hs hu0 el
       rw [z] at c1 c2
       exact ⟨c1,c2⟩
      ·have z:cD ds es=false:=by rw [dr]; simp [hl]
       have hs:(its.toArray.size != its2.toArray.size)=true:=by rw [l1,l2]; simpa using hl
       rw [z]
       exact ⟨SeqAt.RcAt.lists_lengths p1 p2 hs hu0,SeqAt.RcNeAt.lists_lengths p1 p2 hs hu0⟩
     have eqd:cT (.lst ds) (.lst es)=cD ds es:=by rw [cT]
     by_cases hab:a=b
     ·subst hab
      have z:=ji I (.lst ds) (.lst es) (.ref a) (by unfold aF; exact ⟨a,xs,rfl,q1,r1⟩) (by unfold aF; exact ⟨a,ys,rfl,q2,r2⟩)
      refine ⟨by rw [eqd]; exact key.1,by rw [z]; exact .same _,by rw [eqd]; exact key.2⟩
     ·rw [eqd]
      exact ⟨key.1,.of_refs hab key.1,key.2⟩
   | tup es =>
     unfold aF at h2
     obtain ⟨b,ys,rfl,q2,r2⟩:=id h2
     cases ry
     obtain ⟨its2,rv2,p2,_⟩:=I.tuple q2
     have p2:s.heap.IsTuple b its2.toArray:=p2
     exact ⟨.list_tuple p1 p2 hu0,.list_tuple p1 p2 hu0,.list_tuple p1 p2 hu0⟩
 | tup ds =>
   unfold aF at h1
   obtain ⟨a,xs,rfl,q1,r1⟩:=id h1
   cases rx
   obtain ⟨its,rv,p1,_⟩:=I.tuple q1
   have p1:s.heap.IsTuple a its.toArray:=p1
   cases e with
   | non =>
     unfold aF at h2
     subst h2
     cases ry
     exact ⟨.tuple_none  p1 hu0,.tuple_none  p1 hu0,.tuple_none  p1 hu0⟩
   | bl q =>
     unfold aF at h2
     subst h2
     cases ry
     exact ⟨.tuple_bool q p1 hu0,.tuple_bool q p1 hu0,.tuple_bool q p1 hu0⟩
   | int q =>
     unfold aF at h2
     subst h2
     obtain ⟨tq,rfl⟩:=ry
     exact ⟨.tuple_int q tq p1 hu0,.tuple_int q tq p1 hu0,.tuple_int q tq p1 hu0⟩
   | str q =>
     unfold aF at h2
     subst h2
     obtain ⟨tq,rfl⟩:=ry
     exact ⟨.tuple_str q tq p1 hu0,.tuple_str q tq p1 hu0,.tuple_str q tq p1 hu0⟩
   | lst es =>
     unfold aF at h2
     obtain ⟨b,ys,rfl,q2,r2⟩:=id h2
     cases ry
     obtain ⟨its2,rv2,p2,_⟩:=I.list q2
     have p2:s.heap.IsList b its2.toArray:=p2.isList
     exact ⟨.tuple_list p1 p2 hu0,.tuple_list p1 p2 hu0,.tuple_list p1 p2 hu0⟩
   | tup es =>
     unfold aF at h2
     obtain ⟨b,ys,rfl,q2,r2⟩:=id h2
     cases ry
     obtain ⟨its2,rv2,p2,_⟩:=I.tuple q2
     have p2:s.heap.IsTuple b its2.toArray:=p2
     have el:=iq I n ih (by unfold iX at hn; omega) A hu r1 r2 rv rv2 (by unfold iX at hn; omega)
     have l1:its.toArray.size=ds.length:=by rw [List.size_toArray,← rv.length,r1.len]
     have l2:its2.toArray.size=es.length:=by rw [List.size_toArray,← rv2.length,r2.len]
     have dr:=eU ds es
     have key:SeqAt.RcAt A s (.ref a) (.ref b) (cD ds es)∧SeqAt.RcNeAt A s (.ref a) (.ref b) (!cD ds es):=by
      have z:((List.range (min its.toArray.size its2.toArray.size)).all (fun j=>cT (ds.getD j .non) (es.getD j .non))&&its.toArray.size == its2.toArray.size)=cD ds es:=by rw [dr,l1,l2]
      have c1:=SeqAt.RcAt.tuples p1 p2 hu0 el
      have c2:=SeqAt.RcNeAt.tuples p1 p2 hu0 el
      rw [z] at c1 c2
      exact ⟨c1,c2⟩
     have eqd:cT (.tup ds) (.tup es)=cD ds es:=by rw [cT]
     by_cases hab:a=b
     ·subst hab
      have z:=ji I (.tup ds) (.tup es) (.ref a) (by unfold aF; exact ⟨a,xs,rfl,q1,r1⟩) (by unfold aF; exact ⟨a,ys,rfl,q2,r2⟩)
      refine ⟨by rw [eqd]; exact key.1,by rw [z]; exact .same _,by rw [eqd]; exact key.2⟩
     ·rw [eqd]
      exact ⟨key.1,.of_refs hab key.1,key.2⟩
theorem gq (I:Inv X pins σ H s):∀ (n:Nat)(A:Around)(d e:D)(x y:V)(u v:Value),iX d≤n->A.units + n < cLine->aF X.K H d x->aF X.K H e y->aC x u->aC y v →
 SeqAt.RcAt A s u v (cT d e)∧SeqAt.EqAt A s u v (cT d e)∧SeqAt.RcNeAt A s u v (!cT d e):=by
 intro n
 induction n with
 | zero=>exact fun A d e x y u v hn hu h1 h2 rx ry=>jV I 0 (fun z=>absurd z (by simp)) A d e x y u v hn hu h1 h2 rx ry
 | succ n ih=>exact fun A d e x y u v hn hu h1 h2 rx ry=>jV I (n + 1) (fun _ A d e x y u v hn hu h1 h2 rx ry=>(ih A d e x y u v hn hu h1 h2 rx ry).2.1) A d e x y u v hn hu h1 h2 rx ry
end
section
variable {X:Cx}
def zm (K:Frag)(neg:Bool):R2:=fun x y H Q=>∃ d e,aF K H d x∧aF K H e y∧iX d≤32∧Q (.bl (cT d e != neg)) H
theorem v9 {k:Nat}(hr:Room k X.A):dz X (compareOp .Eq) (zm X.K false):=by
 intro pins s σ H x y v u Q I rx ry h
 obtain ⟨d,e,h1,h2,hd,q⟩:=h
 have z:=(gq I 32 X.A d e x y v u hd (by have:=hr.units; omega) h1 h2 rx ry).1
 exact z X.prog X.w X.xe _ ⟨.bl (cT d e),H,I,rfl,by simpa using q⟩
theorem pj {k:Nat}(hr:Room k X.A):dz X (compareOp .NotEq) (zm X.K true):=by
 intro pins s σ H x y v u Q I rx ry h
 obtain ⟨d,e,h1,h2,hd,q⟩:=h
 have z:=(gq I 32 X.A d e x y v u hd (by have:=hr.units; omega) h1 h2 rx ry).2.2
 exact z X.prog X.w X.xe _ ⟨.bl (!cT d e),H,I,rfl,by
  have e1:(cT d e != true) = !cT d e:=by cases cT d e <;> rfl
  rw [e1] at q
  exact q⟩
end
end L2
namespace Nm
def cg (a b:Int):Int:=(Int.gcd a b:Int)
def dv (t b:Int):Int:=if b < 0 then -(cg t b) else cg t b
def cV (t b:Int):Int:=t.fdiv (dv t b)
def bY (t b:Int):Int:=b.fdiv (dv t b)
theorem dj {t b:Int}(h:b≠0):0 < cg t b:=by
 unfold cg
 have:0 < Int.gcd t b:=Int.gcd_pos_of_ne_zero_right _ h
 omega
theorem jM {t b:Int}(h:b≠0):dv t b≠0:=by
 have:=dj (t:=t) h
 unfold dv
 split <;> omega
theorem A8 {t b:Int}:dv t b ∣ t:=by
 unfold dv cg
 split
 ·exact Int.neg_dvd.mpr (Int.gcd_dvd_left ..)
 ·exact Int.gcd_dvd_left ..
theorem Bt {t b:Int}:dv t b ∣ b:=by
 unfold dv cg
 split
 ·exact Int.neg_dvd.mpr (Int.gcd_dvd_right ..)
 ·exact Int.gcd_dvd_right ..
theorem mn {a b:Int}(h:b ∣ a)(hb:b≠0):a.fdiv b * b=a:=by
 obtain ⟨c,rfl⟩:=h
 rw [Int.mul_fdiv_cancel_left _ hb,Int.mul_comm]
theorem p7 {t b:Int}(h:b≠0):cV t b * dv t b=t:=mn A8 (jM h)
theorem jW {t b:Int}(h:b≠0):bY t b * dv t b=b:=mn Bt (jM h)
theorem lu {t b:Int}(h:b≠0):0 < bY t b:=by
 have e:=jW (t:=t) h
 have g:=dj (t:=t) h
 by_cases hb:b < 0
 ·have hd:dv t b = -(cg t b):=by unfold dv; rw [if_pos hb]
  rw [hd] at e
  by_cases hl:0 < bY t b
  ·exact hl
  ·have:0≤bY t b * -(cg t b):=by
    have:=Int.mul_nonneg_of_nonpos_of_nonpos (a:=bY t b) (b:=-(cg t b)) (by omega) (by omega)
    exact this
   omega
 ·have hd:dv t b=cg t b:=by unfold dv; rw [if_neg hb]
  rw [hd] at e
  by_cases hl:0 < bY t b
  ·exact hl
  ·have:bY t b * cg t b≤0:=Int.mul_nonpos_of_nonpos_of_nonneg (by omega) (by omega)
   omega
theorem jK {t b:Int}:(dv t b).natAbs=Int.gcd t b:=by
 unfold dv cg
 split <;> simp
theorem qi {t b:Int}(h:b≠0):Int.gcd (cV t b) (bY t b)=1:=by
 have e1:=p7 (t:=t) h
 have e2:=jW (t:=t) h
 have g:0 < Int.gcd t b:=Int.gcd_pos_of_ne_zero_right _ h
 have e3:Int.gcd (cV t b * dv t b) (bY t b * dv t b)=Int.gcd (cV t b) (bY t b) * (dv t b).natAbs:=Int.gcd_mul_right ..
 rw [e1,e2,jK] at e3
 have:Int.gcd (cV t b) (bY t b) * Int.gcd t b=1 * Int.gcd t b:=by omega
 exact Nat.eq_of_mul_eq_mul_right g this
theorem oB {t b t' b':Int}(h:b≠0)(hp:0 < b')(hg:Int.gcd t' b'=1)(he:t * b'=t' * b):cV t b=t'∧bY t b=b':=by
 have e1:=p7 (t:=t) h
 have e2:=jW (t:=t) h
 have g:=jM (t:=t) h
 have lp:=lu (t:=t) h
 have lg:=qi (t:=t) h
 have e3:cV t b * b'=t' * bY t b:=by
  have z:(cV t b * b') * dv t b=(t' * bY t b) * dv t b:=by
   rw [Int.mul_right_comm,e1,he,Int.mul_assoc,e2]
  exact Int.eq_of_mul_eq_mul_right g z
 have n3:(cV t b).natAbs * b'.natAbs=t'.natAbs * (bY t b).natAbs:=by
  have:=congrArg Int.natAbs e3
  rw [Int.natAbs_mul,Int.natAbs_mul] at this
  exact this
 have c1:Nat.Coprime (bY t b).natAbs (cV t b).natAbs:=by
  rw [Nat.coprime_comm]
  exact lg
 have c2:Nat.Coprime b'.natAbs t'.natAbs:=by
  rw [Nat.coprime_comm]
  exact hg
 have d1:(bY t b).natAbs ∣ b'.natAbs:=c1.dvd_of_dvd_mul_left ⟨t'.natAbs,by rw [n3,Nat.mul_comm]⟩
 have d2:b'.natAbs ∣ (bY t b).natAbs:=c2.dvd_of_dvd_mul_left ⟨(cV t b).natAbs,by rw [← n3,Nat.mul_comm]⟩
 have e4:(bY t b).natAbs=b'.natAbs:=Nat.dvd_antisymm d1 d2
 have e5:bY t b=b':=by omega
 refine ⟨?_,e5⟩
 rw [e5] at e3
 exact Int.eq_of_mul_eq_mul_right (by omega) e3
theorem mE {t b:Int}(hp:0 < b)(hg:Int.gcd t b=1):cV t b=t∧bY t b=b:=oB (by omega) hp hg rfl
theorem nZ (a b:Int):Int.gcd b (a.fmod b)=Int.gcd a b:=by
 rw [Int.fmod_def,Int.gcd_comm a b]
 first
  | exact Int.gcd_sub_mul_left_right ..
  | simp
theorem qM (a b:Int)(h:b≠0):(a.fmod b).natAbs < b.natAbs:=by
 by_cases hb:0 < b
 ·have h1:=Int.fmod_lt_of_pos a hb
  have h2:=Int.fmod_nonneg_of_pos a hb
  omega
 ·have e:a.fmod b = -((-a).fmod (-b)):=by
   have:=Int.fmod_def a b
   rw [Int.neg_fmod_neg]
   omega
  have h1:=Int.fmod_lt_of_pos (-a) (b:=-b) (by omega)
  have h2:=Int.fmod_nonneg_of_pos (-a) (b:=-b) (by omega)
  omega
def sg (b:Int):Int:=if b < 0 then -1 else 1
def ab (b:Int):Int:=if b < 0 then -b else b
theorem jq (b:Int):ab b=(b.natAbs:Int):=by unfold ab; split <;> omega
theorem Ay {t b:Int}(h:b≠0):(sg b * t).fdiv (cg t b)=cV t b:=by
 have g:=dj (t:=t) h
 have e:=p7 (t:=t) h
 have z:sg b * t=cV t b * cg t b:=by
  unfold sg dv at *
  split
  ·rename_i hb
   rw [if_pos hb] at e
   have:cV t b * -cg t b = -(cV t b * cg t b):=by rw [Int.mul_neg]
   omega
  ·rename_i hb
   rw [if_neg hb] at e
   omega
 rw [z,Int.mul_fdiv_cancel _ (by omega)]
theorem An {t b:Int}(h:b≠0):(ab b).fdiv (cg t b)=bY t b:=by
 have g:=dj (t:=t) h
 have e:=jW (t:=t) h
 have z:ab b=bY t b * cg t b:=by
  unfold ab dv at *
  split
  ·rename_i hb
   rw [if_pos hb] at e
   have:bY t b * -cg t b = -(bY t b * cg t b):=by rw [Int.mul_neg]
   omega
  ·rename_i hb
   rw [if_neg hb] at e
   omega
 rw [z,Int.mul_fdiv_cancel _ (by omega)]
theorem yM (a b:Int):Int.gcd (ab a) (ab b)=Int.gcd a b:=by
 rw [jq,jq]
 simp [Int.gcd]
def B (n:Nat)(i:Int):Prop:=i.natAbs < 2 ^ n
theorem B.mono {n m:Nat}{i:Int}(h:B n i)(hn:n≤m):B m i:=Nat.lt_of_lt_of_le h (Nat.pow_le_pow_right (by decide) hn)
theorem B.mul {n m:Nat}{i j:Int}(h:B n i)(k:B m j):B (n + m) (i * j):=by
 unfold B at *
 rw [Int.natAbs_mul,Nat.pow_add]
 exact Nat.mul_lt_mul'' h k
theorem B.add {n:Nat}{i j:Int}(h:B n i)(k:B n j):B (n + 1) (i + j):=by
 unfold B at *
 rw [Nat.pow_succ]
 have:=Int.natAbs_add_le i j
 omega
theorem B.le {n:Nat}{i j:Int}(h:B n i)(k:j.natAbs≤i.natAbs):B n j:=Nat.lt_of_le_of_lt k h
theorem oM {x d y:Int}(e:x * d=y)(hd:d≠0):x.natAbs≤y.natAbs:=by
 have:x.natAbs * d.natAbs=y.natAbs:=by rw [← Int.natAbs_mul,e]
 have h1:1≤d.natAbs:=by omega
 calc x.natAbs=x.natAbs * 1:=(Nat.mul_one _).symm
  _≤x.natAbs * d.natAbs:=Nat.mul_le_mul_left _ h1
  _=y.natAbs:=this
theorem qt {t b:Int}(h:b≠0):(cV t b).natAbs≤t.natAbs:=oM (p7 h) (jM h)
theorem qv {t b:Int}(h:b≠0):(bY t b).natAbs≤b.natAbs:=oM (jW h) (jM h)
theorem xX {t b:Int}(h:b≠0):(dv t b).natAbs≤b.natAbs:=by
 have e:=jW (t:=t) h
 have lp:=lu (t:=t) h
 exact oM (x:=dv t b) (d:=bY t b) (by rw [Int.mul_comm]; exact e) (by omega)
theorem yT {t b:Int}(h:b≠0):(cg t b).natAbs≤b.natAbs:=by
 have e:=xX (t:=t) h
 rw [jK] at e
 unfold cg
 simpa using e
structure Num (p t b:Int):Prop where
 pos:0 < b
 red:Int.gcd t b=1
 pr:p≠0->b=1∧0≤t∧t < p
theorem Num.ofP {p t:Int}(h0:0≤t)(h1:t < p):Num p t 1:=⟨by decide,by simp,fun _=>⟨rfl,h0,h1⟩⟩
theorem Num.low {t b:Int}(h:b≠0):Num 0 (cV t b) (bY t b):=⟨lu h,qi h,fun z=>absurd rfl z⟩
def eF (p t b:Int):Int:=if p=0 then cV t b else t % p
def eE (p t b:Int):Int:=if p=0 then bY t b else 1
theorem Num.set {p t b:Int}(hp:0≤p)(h:b≠0):Num p (eF p t b) (eE p t b):=by
 unfold eF eE
 by_cases z:p=0
 ·subst z
  simp only [if_true]
  exact Num.low h
 ·simp only [z,if_false]
  exact Num.ofP (Int.emod_nonneg _ z) (Int.emod_lt_of_pos _ (by omega))
theorem Num.self {p t b:Int}(n:Num p t b)(hp:0≤p):eF p t b=t∧eE p t b=b:=by
 unfold eF eE
 by_cases z:p=0
 ·simp only [z,if_true]
  exact mE n.pos n.red
 ·simp only [z,if_false]
  obtain ⟨h1,h2,h3⟩:=n.pr z
  exact ⟨Int.emod_eq_of_lt h2 h3,h1.symm⟩
end Nm
namespace L2
open PySem PySem.Spec PyProof.Rows PySem.W
theorem uN {i:Int}(h:Nm.B 9000 i):i.natAbs.log2 < 9000:=by
 by_cases z:i.natAbs=0
 ·rw [z]; decide
 ·exact (Nat.log2_lt z).mpr h
theorem vm {i:Int}(h:Nm.B 9000 i):Builtin.Int.intBits i≤2 ^ 20:=by
 have l:=uN h
 unfold Builtin.Int.intBits
 split
 ·exact Nat.zero_le _
 ·have:(9000:Nat)≤2 ^ 20:=by decide
  omega
section
variable {X:Cx}
theorem dU:dz X (binaryOp .FloorDiv) (rI (fun _ j=>j≠0∧Nm.B 9000 j) fun i j=>.int (i.fdiv j)):=yh fun _ _ _ _ _ _ _ hc q=>floordiv_int hc.1 q (.inl (PyProof.noPylong_of_log2 (uN hc.2)))
theorem cY:dz X (binaryOp .Mult) (rI (fun i j=>Nm.B 9000 i∧Nm.B 9000 j) fun i j=>.int (i * j)):=yh fun _ _ _ _ _ _ _ hc q=>mul_int q (IntMulOk.of_bits (vm hc.1) (vm hc.2))
end
def mB:List Expr->Option (List Int)
 | []=>some []
 | .Constant (.int i) _ _ :: es=>(mB es).map (i :: ·)
 | _=>none
def zE (ns:List Int):TA:=fun _ H Q=>Q (ns.map V.int) H
theorem qC {X:Cx}:∀ {es:List Expr}{ns:List Int},mB es=some ns->PA X es (zE ns)
 | [],ns,h=>by
   cases h
   exact af
 | .Constant (.int i) k p :: es,ns,h=>by
   unfold mB at h
   cases e:mB es with
   | none=>rw [e] at h; cases h
   | some ms =>
     rw [e] at h
     cases h
     exact aj (ah (j:=k) (pos:=p)) (qC e)
def Aj (ns:List Int):TE:=fun _ H Q=>∀ p,H p=none->Q (.ref p) (upd H p (.lst (ns.map V.int)))
theorem lj {X:Cx}{es:List Expr}{pos:Pos}{ns:List Int}(h:mB es=some ns)(hl:ns.length≤1000):PE X (.List es pos) (Aj ns):=by
 intro pins s σ H Q I q
 refine bf (qC h) pins s σ H Q I ?_
 refine ⟨?_,q⟩
 rw [List.length_map]
 exact Nat.le_of_lt (sG hl)
end L2
namespace K05
open PySem L2 PySem.W Nm
abbrev Au:Stmt:=(aY 30)
abbrev qe:Stmt:=(aY 31)
def bA (t b:Int):HO:=.tup [.int t,.int b]
def spGcd:Sp:=fun vs H Q _=>∃ a b:Int,vs=[.int a,.int b]∧Q (.int (cg a b)) H
def spLowest:Sp:=fun vs H Q _=>∃ t b:Int,vs=[.int t,.int b]∧b≠0∧B 9000 b∧∀ p,H p=none->Q (.ref p) (upd H p (bA (cV t b) (bY t b)))
theorem kb {p:Int}(h:p∈primes):2≤p∧p≤97:=by
 have:∀ q∈primes,2≤q∧q≤97:=by decide
 exact this p h
variable {P:Program}{w:World}{K:PySem.W.Frag}{mg:Str->Option Value}{base:Heap}
theorem x8:FnScope ["one","other"] ["one","other"] (ao Au):=dB (by decide +kernel)
theorem yo {f:Addr}{fd:FuncData}(F:Fun K "common_divisor" "common_divisor" Au f fd)(mA:mg "abs"=none):FnOk P w K mg base (bh P w) 1 f fd ["one","other"] spGcd:=by
 refine F.okN x8 (fun vs H Q E h=>?_) (fun cdv A outer s H vs Q E hr h=>?_)
 ·obtain ⟨a,b,rfl,_⟩:=h
  rfl
 ·obtain ⟨a,b,rfl,q⟩:=h
  refine ⟨_,ai (ip PassesOwn.never (iV (pv 1) (fun _=>rfl)) (aq (vF (i:=0) (j:=1) rfl x8.nd rfl rfl (by decide) rfl rfl (aj (pv 1) (aj (aD qd (pv 0) (pv 1)) af)) rfl)))
   (aq (az (aH cN (by rfl) mA (by rfl) (aj (pv 0) af)))),?_⟩
  refine ⟨fun m σ H'=>∃ c d:Int,σ=[some (.int c),some (.int d)]∧H'=H∧m=d.natAbs∧Int.gcd c d=Int.gcd a b,⟨_,a,b,rfl,rfl,rfl,rfl⟩,?_⟩
  rintro m σ H' ⟨c,d,rfl,rfl,rfl,hg⟩
  refine ⟨_,rfl,_,rfl,?_⟩
  refine bF (fun h=>?_) (fun h=>?_)
  ·have hd:d≠0:=by simpa using h
   refine ⟨fun σ' H''=>∃ c' d':Int,σ'=[some (.int c'),some (.int d')]∧H''=H'∧d'.natAbs < d.natAbs∧Int.gcd c' d'=Int.gcd a b,fun σ' H'' ⟨c',d',e1,e2,e3,e4⟩=>⟨_,e3,c',d',e1,e2,rfl,e4⟩,?_⟩
   refine ⟨_,rfl,_,rfl,_,rfl,_,_,rfl,rfl,hd,_,_,rfl,d,c.fmod d,rfl,rfl,qM c d hd,?_⟩
   rw [nZ,hg]
  ·have hd:d=0:=by simpa using h
   subst hd
   refine ⟨_,rfl,c,rfl,?_⟩
   have e:(if c < 0 then -c else c)=cg a b:=by
    unfold cg
    rw [← hg]
    have:=jq c
    unfold ab at this
    rw [this]
    simp
   rw [e]
   exact q
theorem iH:FnScope ["top","bottom","divisor"] ["top","bottom"] (ao qe):=dB (by decide +kernel)
theorem rE {f fg:Addr}{fd fdg:FuncData}(F:Fun K "lowest" "lowest" qe f fd)(FG:FnOk P w K mg base (bh P w) 1 fg fdg ["one","other"] spGcd)(bG:L2.ay K fdg ["one","other"] [])(mG:mg "common_divisor"=some (.ref fg))(kG:keepIn K (.ref fg)=true):
 FnOk P w K mg base (bh P w) 2 f fd ["top","bottom"] spLowest:=by
 refine F.okN iH (fun vs H Q E h=>?_) (fun cdv A outer s H vs Q E hr h=>?_)
 ·obtain ⟨a,b,rfl,_⟩:=h
  rfl
 ·obtain ⟨t,b,rfl,hb,hB,q⟩:=h
  refine ⟨_,ai (bt (aE cx (pv 1) ah (ax _)) (aq (az (bK (aj (pv 0) (aj ah af))))) aO)
   (ai (aJ (i:=2) iH.nd rfl (Or.inl rfl) (av FG hr (by rfl) mG kG bG .nil ae (aj (pv 0) (aj (pv 1) af))))
   (ai (bt (aE gO (pv 1) ah (ax _)) (aq (aJ (i:=2) iH.nd rfl (Or.inl rfl) (vX n8 (pv 2)))) aO)
   (aq (az (bK (aj (aD dU (pv 0) (pv 2)) (aj (aD dU (pv 1) (pv 2)) af))))))),?_⟩
  refine ⟨_,rfl,rfl,_,rfl,?_⟩
  refine bF (fun h=>?_) (fun h=>?_)
  ·have e:b=1:=by simpa using h
   subst e
   have z:=mE (t:=t) (b:=1) (by decide) (by simp)
   refine ⟨_,rfl,f9,fun p hp=>?_⟩
   have y:=q p hp
   rw [z.1,z.2] at y
   exact y
  ·refine ⟨_,rfl,_,rfl,t,b,rfl,?_⟩
   refine ⟨_,rfl,_,_,rfl,rfl,_,rfl,?_⟩
   have gp:=dj (t:=t) hb
   have fin:∀ d:Int,d=dv t b->Ai (cG (n5 (rI (fun _ j=>j≠0∧Nm.B 9000 j) fun i j=>V.int (i.fdiv j)) (dJ 0) (dJ 2)) (cG (n5 (rI (fun _ j=>j≠0∧Nm.B 9000 j) fun i j=>V.int (i.fdiv j)) (dJ 1) (dJ 2)) tNil)) [some (.int t),some (.int b),some (.int d)] H Q:=by
    intro d hd
    have hd0:d≠0:=by rw [hd]; exact jM hb
    have hdB:B 9000 d:=by rw [hd]; exact hB.le (xX hb)
    refine ⟨_,rfl,_,rfl,_,_,rfl,rfl,⟨hd0,hdB⟩,_,rfl,_,rfl,_,_,rfl,rfl,⟨hd0,hdB⟩,f9,fun p hp=>?_⟩
    have y:=q p hp
    unfold cV bY at y
    rw [← hd] at y
    exact y
   refine bF (fun h2=>?_) (fun h2=>?_)
   ·have e:b < 0:=by simpa using h2
    exact ⟨_,rfl,_,rfl,fin _ (by unfold dv; rw [if_pos e])⟩
   ·have e:¬ b < 0:=by simpa using h2
    exact fin _ (by unfold dv; rw [if_neg e])
abbrev v5:Stmt:=(aY 9)
abbrev vB:Stmt:=ba (aY 33) 0
inductive Th (H:Hp):V->String->Prop where
 | non:Th H .non "NoneType"
 | bl (b:Bool):Th H (.bl b) "bool"
 | int (i:Int):Th H (.int i) "int"
 | str (x:Str):Th H (.str x) "str"
 | lst {a:Addr}{xs:List V}(e:H a=some (.lst xs)):Th H (.ref a) "list"
 | tup {a:Addr}{xs:List V}(e:H a=some (.tup xs)):Th H (.ref a) "tuple"
 | dK {a:Addr}{kvs:List (Key × V)}(e:H a=some (.dK kvs)):Th H (.ref a) "dict"
theorem Th.ty {K:Frag}{H:Hp}{x:V}{T:String}(h:Th H x T):TyX K H x (.type T):=by
 cases h with
 | non=>exact .of .non
 | bl b=>exact .of (.bl b)
 | int i=>exact .of (.int i)
 | str x=>exact .of (.str x)
 | lst e=>exact .of (.lst e)
 | tup e=>exact .of (.tup e)
 | dK e=>exact .of (.dK e)
def cX:V->Bool
 | .int _=>true
 | _=>false
def Ab:V->Bool
 | .int _=>true
 | .bl _=>true
 | _=>false
theorem Th.isInt {K:Frag}{H:Hp}{x:V}{T:String}(h:Th H x T):kitOne K (.type T) (.type "int")=some (Ab x):=by cases h <;> rfl
theorem Th.isBool {K:Frag}{H:Hp}{x:V}{T:String}(h:Th H x T)(hi:Ab x=true):kitOne K (.type T) (.type "bool")=some (!cX x):=by
 cases h with
 | int i=>rfl
 | bl b=>rfl
 | _=>cases hi
def spWhole:Sp:=fun vs H Q _=>∃ x T,vs=[x]∧Th H x T∧Q (.bl (cX x)) H
structure Nones (mg:Str->Option Value):Prop where
 isi:mg "isinstance"=none
 int:mg "int"=none
 bool:mg "bool"=none
theorem wO:FnScope ["thing"] ["thing"] (ao v5):=dB (by decide +kernel)
theorem vo {f:Addr}{fd:FuncData}(F:Fun K "is_whole" "is_whole" v5 f fd)(n:Nones mg):FnOk P w K mg base (bh P w) 1 f fd ["thing"] spWhole:=by
 refine F.okN wO (fun vs H Q E h=>?_) (fun cdv A outer s H vs Q E hr h=>?_)
 ·obtain ⟨x,T,rfl,_⟩:=h
  rfl
 ·obtain ⟨x,T,rfl,th,q⟩:=h
  refine ⟨_,aq (az (c8 (aH bx (by rfl) n.isi (by rfl) (b8 (pv 0) (b8 (eu (by rfl) n.int (by rfl) (show aC (.ty "int") (.type "int") from rfl)) af)))
   (fj (yt (aH bx (by rfl) n.isi (by rfl) (b8 (pv 0) (b8 (eu (by rfl) n.bool (by rfl) (show aC (.ty "bool") (.type "bool") from rfl)) af))))))),?_⟩
  refine ⟨_,rfl,x,.ty "int",_,_,_,rfl,rfl,th.ty,th.isInt,_,rfl,?_⟩
  refine bF (fun hi=>?_) (fun hi=>?_)
  ·refine ⟨_,rfl,x,.ty "bool",_,_,_,rfl,rfl,th.ty,th.isBool hi,_,rfl,?_⟩
   simpa using q
  ·have e:cX x=false:=by
    cases th <;> first | rfl | exact absurd rfl hi
   rw [e] at q
   exact q
def gP (i:Int):Bool:=i == 0 || primes.any fun p=>p == i
def good:V->Bool
 | .int i=>gP i
 | _=>false
def eC (i:Int):List (Str × V):=[("its_prime",.int i)]
def oh (C NF:Addr):Sp:=fun vs H Q E=>∃ (p dx:Addr)(x:V)(T:String),vs=[.ref p,x]∧Th H x T∧H p=some (.ins C dx [])∧(good x=true->Q .non (upd H p (.ins C dx [("its_prime",x)])))∧(good x=false->E (.ref NF) none H)
structure FieldK (K:Frag)(mg:Str->Option Value)(C:Addr):Prop where
 cl:Cls K C
 nP:cR K C "its_prime"
 mgC:mg "Field"=some (.ref C)
 isC:((clsIn K C).isSome&&typeIn K (.ref C) == some (.type "type"))=true
 ca:findIn K (.ref C) "__class__"=some (some (.builtin "object.__class__"))
 sp:specialIn K (.builtin "object.__class__") "__get__"=some (some (.builtin "getset_descriptor.__get__"))
 tk:takesIn K (.builtin "object.__class__")=some true
 ob:mroIn K C (.type "object")=some true
theorem FieldK.ty {K:Frag}{mg:Str->Option Value}{C:Addr}(c:FieldK K mg C){H:Hp}{p dx:Addr}{fs:List (Str × V)}(e:H p=some (.ins C dx fs)):TyX K H (.ref p) (.ref C):=.of (.ins e c.cl c.ca c.sp c.tk c.ob)
theorem FieldK.is {K:Frag}{mg:Str->Option Value}{C:Addr}(c:FieldK K mg C):kitOne K (.ref C) (.ref C)=some true:=by
 unfold kitOne
 rw [if_pos (by simp)]
theorem FieldK.no {K:Frag}{mg:Str->Option Value}{C:Addr}(c:FieldK K mg C){H:Hp}{x:V}{T:String}(h:Th H x T):kitOne K (.type T) (.ref C)=some false:=by
 show (if (Value.type T == Value.ref C)=true then some true else (if ((clsIn K C).isSome&&typeIn K (.ref C) == some (.type "type"))=true then subIn K (.type T) (.ref C) else none))=some false
 rw [if_neg (by intro z; cases beq_iff_eq.mp z),if_pos c.isC]
 cases h <;> rfl
theorem ir (i:Int):zx (.int i) (primes.map V.int)=primes.any fun p=>p == i:=by
 unfold zx
 rw [List.any_map]
 rfl
theorem yg:FnScope ["self","prime"] ["self","prime"] (ao vB):=dB (by decide +kernel)
theorem xF {f fw C NF aP T:Addr}{fd fdw:FuncData}{tF:Tok}(F:FunD K "__init__" "Field.__init__" vB f fd T)(c:FieldK K mg C)(FW:FnOk P w K mg base (bh P w) 1 fw fdw ["thing"] spWhole)(bW:ay K fdw ["thing"] [])(mW:mg "is_whole"=some (.ref fw))(kW:keepIn K (.ref fw)=true)
 (mF:mg "FRACTIONS"=some (.int 0 tF))(mP:mg "PRIMES"=some (.ref aP))(hP:∀ H:Hp,bg K H aP (primes.map V.int))(mN:mg "NoField"=some (.ref NF))(qN:excIn K NF BR zX=true):FnOk P w K mg base (bh P w) 2 f fd ["self","prime"] (oh C NF):=by
 refine F.okE yg (fun vs H Q E h=>?_) (fun cdv A outer s H vs Q E hr h=>?_)
 ·obtain ⟨p,dx,x,T,rfl,_⟩:=h
  rfl
 ·obtain ⟨p,dx,x,T,rfl,th,hp,hq,hE⟩:=h
  refine ⟨_,ai (bt (PW.pt (dh (cz (c7 (av FW hr (by rfl) mW kW bW .nil ae (b8 (pv 1) af))))
   (cL (PW.pt (ye (aE dw (pv 1) (cj (by rfl) mF (show aC (.int 0) (.int 0 tF) from ⟨_,rfl⟩)) (ax _)) (wM (aE lI (pv 1) (cj (by rfl) mP (show aC (.ref aP) (.ref aP) from rfl)) (by rfl))))))))
   (aq (vS PySem.F.excBase_ValueError qN rfl oH (by rfl) mN (b8 aU af))) aO)
   (aq (oj (pv 0) (pv 1) rfl)),?_⟩
  have fin:good x=true->∃ (a C' dx':Addr)(fs:List (Str × V)),V.ref p = .ref a∧H a=some (.ins C' dx' fs)∧Cls K C'∧cR K C' "its_prime"∧fs.length < 1000∧Q .non (upd H a (.ins C' dx' (cM "its_prime" x fs))):=fun g=>⟨p,C,dx,[],rfl,hp,c.cl,c.nP,by decide,hq g⟩
  refine ⟨_,rfl,x,T,rfl,th,_,rfl,?_⟩
  cases th with
  | int i =>
    refine cq ?_
    refine ⟨_,rfl,rfl,_,rfl,?_⟩
    refine bF (fun h0=>?_) (fun h0=>?_)
    ·refine ⟨_,rfl,aP,_,rfl,.inr (hP _),rfl,rfl,_,rfl,?_⟩
     refine bF (fun h1=>?_) (fun h1=>?_)
     ·refine ⟨by decide,hE ?_⟩
      have e1:¬ i=0:=by simpa using h0
      have e2:zx (.int i) (primes.map V.int)=false:=by simpa using h1
      rw [ir] at e2
      show gP i=false
      unfold gP
      rw [e2]
      simpa using e1
     ·have e2:zx (.int i) (primes.map V.int)=true:=by simpa using h1
      rw [ir] at e2
      exact ⟨_,rfl,_,rfl,fin (by show gP i=true; unfold gP; rw [e2]; simp)⟩
    ·have e1:i=0:=by simpa using h0
     exact cq ⟨_,rfl,_,rfl,fin (by show gP i=true; rw [e1]; rfl)⟩
  | _=>exact cf (cf ⟨by decide,hE rfl⟩)
abbrev xV:Stmt:=ba (aY 33) 6
abbrev mf:Stmt:=ba (aY 33) 10
def FP (p:Int):Prop:=p=0∨p∈primes
theorem FP.nn {p:Int}(h:FP p):0≤p:=by
 rcases h with h | h
 ·omega
 ·have:=kb h; omega
theorem FP.two {p:Int}(h:FP p)(z:p≠0):p∈primes∧2≤p∧p≤97:=by
 rcases h with h | h
 ·exact absurd h z
 ·exact ⟨h,kb h⟩
def jU (C:Addr):Sp:=fun vs H Q _=>∃ (s dx:Addr)(p t b:Int),vs=[.ref s,.int t,.int b]∧H s=some (.ins C dx (eC p))∧FP p∧B 9000 b∧b≠0∧∀ a,H a=none->Q (.ref a) (upd H a (bA (eF p t b) (eE p t b)))
def xR (C:Addr)(g:Int->Int->Int->Int->Int):Sp:=fun vs H Q _=>∃ (s dx a1 a2:Addr)(p t1 b1 t2 b2:Int),vs=[.ref s,.ref a1,.ref a2]∧H s=some (.ins C dx (eC p))∧FP p∧H a1=some (bA t1 b1)∧H a2=some (bA t2 b2) ∧
 B 4000 t1∧B 4000 b1∧B 4000 t2∧B 4000 b2∧b1≠0∧b2≠0∧∀ a,H a=none->Q (.ref a) (upd H a (bA (eF p (g t1 b1 t2 b2) (b1 * b2)) (eE p (g t1 b1 t2 b2) (b1 * b2))))
def gK (t1 b1 t2 b2:Int):Int:=t1 * b2 + t2 * b1
def kr (t1 b1 t2 b2:Int):Int:=t1 * t2
theorem q9:FnScope ["self","top","bottom"] ["self","top","bottom"] (ao mf):=dB (by decide +kernel)
theorem pb {f C fl:Addr}{fd fdl:FuncData}{tF:Tok}(F:Fun K "settled" "Field.settled" mf f fd)(c:FieldK K mg C)(mF:mg "FRACTIONS"=some (.int 0 tF))
 (FL:FnOk P w K mg base (bh P w) 2 fl fdl ["top","bottom"] spLowest)(bL:L2.ay K fdl ["top","bottom"] [])(mL:mg "lowest"=some (.ref fl))(kL:keepIn K (.ref fl)=true):
 FnOk P w K mg base (bh P w) 3 f fd ["self","top","bottom"] (jU C):=by
 refine F.okN q9 (fun vs H Q E h=>?_) (fun cdv A outer s H vs Q E hr h=>?_)
 ·obtain ⟨s,dx,p,t,b,rfl,_⟩:=h
  rfl
 ·obtain ⟨s,dx,p,t,b,rfl,hs,hp,hB,hb,q⟩:=h
  refine ⟨_,ai (bt (aE cx (ck (pv 0) rfl) (cj (by rfl) mF (show aC (.int 0) (.int 0 tF) from ⟨_,rfl⟩)) (ax _))
   (aq (az (av FL hr (by rfl) mL kL bL .nil ae (aj (pv 1) (aj (pv 2) af))))) aO)
   (aq (az (bK (aj (aD cO (pv 1) (ck (pv 0) rfl)) (aj ah af))))),?_⟩
  refine ⟨_,rfl,s,C,dx,_,_,rfl,hs,c.cl,c.nP,rfl,rfl,_,rfl,?_⟩
  refine bF (fun h=>?_) (fun h=>?_)
  ·have hp0:p=0:=by simpa using h
   refine ⟨_,rfl,_,rfl,t,b,rfl,hb,hB,fun a ha=>?_⟩
   have y:=q a ha
   unfold eF eE at y
   rw [if_pos hp0,if_pos hp0] at y
   exact y
  ·have hp0:p≠0:=by simpa using h
   obtain ⟨hpp,p2,p97⟩:=hp.two hp0
   refine ⟨_,rfl,_,rfl,s,C,dx,_,_,rfl,hs,c.cl,c.nP,rfl,_,_,rfl,rfl,(by show (0:Int) < p; omega),f9,fun a ha=>?_⟩
   have y:=q a ha
   unfold eF eE at y
   rw [if_neg hp0,if_neg hp0] at y
   exact y
theorem a0 (x y:V):pA [x,y] 0=some x:=rfl
theorem a1 (x y:V):pA [x,y] 1=some y:=rfl
theorem yN:FnScope ["self","one","other"] ["self","one","other"] (ao xV):=dB (by decide +kernel)
theorem pI {a b:Int}(h:a≠0)(k:b≠0):a * b≠0:=Int.mul_ne_zero h k
theorem wx {f C fs:Addr}{fd fds:FuncData}(F:Fun K "plus" "Field.plus" xV f fd)(c:FieldK K mg C)(FS:FnOk P w K mg base (bh P w) 3 fs fds ["self","top","bottom"] (jU C))(bS:L2.ay K fds ["self","top","bottom"] [])(mS:L2.Meth K C "settled" fs):
 FnOk P w K mg base (bh P w) 4 f fd ["self","one","other"] (xR C gK):=by
 refine F.okN yN (fun vs H Q E h=>?_) (fun cdv A outer s H vs Q E hr h=>?_)
 ·obtain ⟨s,dx,a1,a2,p,t1,b1,t2,b2,rfl,_⟩:=h
  rfl
 ·obtain ⟨s,dx,x1,x2,p,t1,b1,t2,b2,rfl,hs,hp,h1,h2,B1,B2,B3,B4,n1,n2,q⟩:=h
  refine ⟨_,aq (az (lH (pv 0) c.cl mS FS hr bS .nil ae (aj (aD dN (aD cY (aK aS (pv 1) ah (fun _ _=>rfl)) (aK aS (pv 2) ah (fun _ _=>rfl))) (aD cY (aK aS (pv 2) ah (fun _ _=>rfl)) (aK aS (pv 1) ah (fun _ _=>rfl)))) (aj (aD cY (aK aS (pv 1) ah (fun _ _=>rfl)) (aK aS (pv 2) ah (fun _ _=>rfl))) af)))),?_⟩
  refine ⟨_,rfl,s,dx,_,rfl,hs,rfl,?_⟩
  refine ⟨_,rfl,x1,_,0,_,rfl,rfl,bg.of h1,a0 _ _,_,rfl,x2,_,1,_,rfl,rfl,bg.of h2,a1 _ _,_,_,rfl,rfl,⟨B1.mono (by decide),B4.mono (by decide)⟩,?_⟩
  refine ⟨_,rfl,x2,_,0,_,rfl,rfl,bg.of h2,a0 _ _,_,rfl,x1,_,1,_,rfl,rfl,bg.of h1,a1 _ _,_,_,rfl,rfl,⟨B3.mono (by decide),B2.mono (by decide)⟩,_,_,rfl,rfl,?_⟩
  refine ⟨_,rfl,x1,_,1,_,rfl,rfl,bg.of h1,a1 _ _,_,rfl,x2,_,1,_,rfl,rfl,bg.of h2,a1 _ _,_,_,rfl,rfl,⟨B2.mono (by decide),B4.mono (by decide)⟩,?_⟩
  exact ⟨s,dx,p,_,_,rfl,hs,hp,(B2.mul B4).mono (by decide),pI n1 n2,q⟩
abbrev xM:Stmt:=(aY 35)
abbrev xY:Stmt:=(aY 36)
abbrev xZ:Stmt:=(aY 37)
abbrev xI:Stmt:=(aY 38)
abbrev uD:Stmt:=(aY 39)
theorem ak {H:Hp}{a:Addr}{o:HO}(h:H a=none):aA H (upd H a o):=fun b u e=>by rw [ar (au e h)]; exact e
def uq (K:PySem.W.Frag):Sp:=fun vs H Q _=>∃ (a:Addr)(ns:List Int)(k:Int),vs=[.ref a,.int k]∧a7 K H a (ns.map V.int)∧ns.length≤63∧0≤k∧k≤63 ∧
 ∀ (p:Addr)(l r:Int),H p=none->0≤r->r < 2147483647->Q (.ref p) (upd H p (.lst [.int l,.int r]))
def spTake:Sp:=fun vs H Q _=>∃ (p:Addr)(l r m:Int),vs=[.ref p,.int m]∧H p=some (.lst [.int l,.int r])∧0≤r∧r < 2147483647∧0 < m∧m < 18446744073709551616 ∧
 ∀ (z l' r':Int),0≤z->z < m->0≤r'->r' < 2147483647->Q (.int z) (upd H p (.lst [.int l',.int r']))
theorem fk {H:Hp}{Q:VK}{k l c:Int}{x:Option V}(hk0:0≤k)(hk1:k≤63)(q:∀ (p:Addr)(l r:Int),H p=none->0≤r->r < 2147483647->Q (.ref p) (upd H p (.lst [.int l,.int r]))):
 xw (cG (dJ 3) (cG (n5 (rI (fun _ j=>0 < j) fun i j=>.int (i % j)) (n5 (rI rP fun i j=>.int (i * j)) (n5 (uV fun i j=>.int (i + j)) (n5 (uV fun i j=>.int (i + j)) (n5 (rI (fun _ j=>0 < j) fun i j=>.int (i % j)) (dJ 2) (tC (.int 2147483629)))
  (n5 (rI rP fun i j=>.int (i * j)) (n5 (rI rP fun i j=>.int (i * j)) (tC (.int 104729)) (dJ 1)) (dJ 1))) (tC (.int 7))) (tC (.int 48271))) (tC (.int 2147483647))) tNil)) [x,some (.int k),some (.int c),some (.int l)] H Q:=by
 have h1:(0:Int)≤104729 * k:=by omega
 have h2:104729 * k≤6597927:=by omega
 refine ⟨_,rfl,_,rfl,_,_,rfl,rfl,(by show (0:Int) < 2147483629; decide),_,rfl,_,_,rfl,rfl,.inl ⟨by decide,by decide⟩,_,rfl,_,_,rfl,rfl,.inl ⟨by omega,by omega⟩,_,_,rfl,rfl,_,_,rfl,rfl,_,_,rfl,rfl,.inr ⟨by decide,by decide⟩,_,_,rfl,rfl,(by show (0:Int) < 2147483647; decide),f9,fun p hp=>?_⟩
 exact q p _ _ hp (Int.emod_nonneg _ (by decide)) (Int.emod_lt_of_pos _ (by decide))
theorem jj:FnScope ["_law_script","_law_k","_law_cell","_law_left"] ["_law_script","_law_k"] (ao xM):=dB (by decide +kernel)
theorem wu {f:Addr}{fd:FuncData}(F:Fun K "_law_room" "_law_room" xM f fd)(hlen:mg "len"=none):FnOk P w K mg base (bh P w) 1 f fd ["_law_script","_law_k"] (uq K):=by
 refine F.okN jj (fun vs H Q E h=>?_) (fun cdv A outer s H vs Q E hr h=>?_)
 ·obtain ⟨a,ns,k,rfl,_⟩:=h
  rfl
 ·obtain ⟨a,ns,k,rfl,hS,hn,hk0,hk1,q⟩:=h
  refine ⟨_,ai (aJ (i:=2) jj.nd rfl (Or.inl rfl) ah)
   (ai (bt (aE gO (pv 1) (aH bD (by rfl) hlen PySem.boot_len (b8 (pv 0) af)) (ax _))
    (aq (aJ (i:=2) jj.nd rfl (Or.inl rfl) (aK bc (pv 0) (pv 1) (fun _ _=>rfl)))) aO)
   (ai (aJ (i:=3) jj.nd rfl (Or.inl rfl) ah)
   (ai (bt (aE ud (pv 2) (aD gB ah ah) (ax _)) (aq (aJ (i:=3) jj.nd rfl (Or.inl rfl) (pv 2))) aO)
   (aq (az (bf (b8 (pv 3) (b8
    (aD cO (aD c6 (aD dN (aD dN (aD cO (pv 2) ah) (aD c6 (aD c6 ah (pv 1)) (pv 1))) ah) ah) ah) af)))))))),?_⟩
  refine ⟨_,rfl,_,rfl,a,_,rfl,.inl hS,_,_,rfl,rfl,_,rfl,?_⟩
  refine bF (fun h=>?_) (fun h=>?_)
  ·have hlt:k.toNat < ns.length:=by
    have h1:=of_decide_eq_true h
    rw [List.length_map] at h1
    omega
   obtain ⟨c,hc⟩:∃ c,pA (ns.map V.int) k=some (V.int c):=by
    refine ⟨ns[k.toNat],?_⟩
    have e:((k.toNat:Nat):Int)=k:=by omega
    have z:=hU (xs:=ns.map V.int) (j:=k.toNat) (v:=V.int ns[k.toNat]) (by rw [List.getElem?_map]; simp [hlt])
    rw [e] at z
    exact z
   refine ⟨_,rfl,_,rfl,a,_,k,_,rfl,rfl,hS,hc,?_⟩
   refine ⟨_,rfl,_,_,rfl,rfl,⟨by decide,by decide,by decide⟩,_,_,rfl,rfl,_,rfl,?_⟩
   refine bF (fun h2=>?_) (fun h2=>?_)
   ·exact ⟨_,rfl,fk hk0 hk1 q⟩
   ·exact fk hk0 hk1 q
  ·refine ⟨_,rfl,_,_,rfl,rfl,⟨by decide,by decide,by decide⟩,_,_,rfl,rfl,_,rfl,?_⟩
   refine bF (fun h2=>?_) (fun h2=>?_)
   ·exact ⟨_,rfl,fk hk0 hk1 q⟩
   ·exact fk hk0 hk1 q
theorem kX:FnScope ["_law_room_here","_law_many","_law_found"] ["_law_room_here","_law_many"] (ao xY):=dB (by decide +kernel)
theorem xn {f:Addr}{fd:FuncData}(F:Fun K "_law_take" "_law_take" xY f fd):FnOk P w K mg base (bh P w) 1 f fd ["_law_room_here","_law_many"] spTake:=by
 refine F.okN kX (fun vs H Q E h=>?_) (fun cdv A outer s H vs Q E hr h=>?_)
 ·obtain ⟨p,l,r,m,rfl,_⟩:=h
  rfl
 ·obtain ⟨p,l,r,m,rfl,hp,hr0,hr1,hm0,hm1,q⟩:=h
  refine ⟨_,ai (bt (aE pY (aK bc (pv 0) ah (fun _ _=>rfl)) ah (ax _))
   (ai (aJ (i:=2) kX.nd rfl (Or.inl rfl) (aD cO (aK bc (pv 0) ah (fun _ _=>rfl)) (pv 1)))
   (ai (eZ (aD dU (aK bc (pv 0) ah (fun _ _=>rfl)) (pv 1)) (lD (pv 0) ah fL))
   (aq (az (pv 2))))) aO)
   (ai (eZ (aD cO (aD dN (aD c6 (aK bc (pv 0) ah (fun _ _=>rfl)) ah) ah) ah) (lD (pv 0) ah fL))
   (ai (aJ (i:=2) kX.nd rfl (Or.inl rfl) (aD wk (aD cO (aD c6 (aK bc (pv 0) ah (fun _ _=>rfl)) (aK bc (pv 0) ah (fun _ _=>rfl))) ah) ah))
   (ai (bt (aE pY (pv 1) (aD gB ah ah) (ax _))
    (ai (eZ (aD cO (aD dN (aD c6 (aK bc (pv 0) ah (fun _ _=>rfl)) ah) ah) ah) (lD (pv 0) ah fL))
    (aq (aJ (i:=2) kX.nd rfl (Or.inl rfl) (aD dN (aD c6 (pv 2) ah) (aD cO (aD c6 (aK bc (pv 0) ah (fun _ _=>rfl)) (aK bc (pv 0) ah (fun _ _=>rfl))) ah))))) aO)
   (aq (az (aD cO (pv 2) (pv 1))))))),?_⟩
  have i0:∀ x y:V,pA [x,y] 0=some x:=fun _ _=>rfl
  have i1:∀ x y:V,pA [x,y] 1=some y:=fun _ _=>rfl
  have n0:wb [V.int l,V.int r].length 0=some 0:=rfl
  have n1:∀ x y:V,wb [x,y].length 1=some 1:=fun _ _=>rfl
  refine ⟨_,rfl,p,_,0,_,rfl,rfl,a7.of hp,i0 _ _,_,_,rfl,rfl,_,rfl,?_⟩
  refine bF (fun h=>?_) (fun h=>?_)
  ·refine ⟨_,rfl,p,_,0,_,rfl,rfl,a7.of hp,i0 _ _,_,rfl,_,_,rfl,rfl,hm0,?_⟩
   refine ⟨_,rfl,p,_,0,_,rfl,rfl,a7.of hp,i0 _ _,_,rfl,_,_,rfl,rfl,⟨by omega,(show B 64 m from (by show m.natAbs < 2 ^ 64; omega)).mono (by decide)⟩,_,rfl,p,_,0,0,rfl,rfl,hp,n0,?_⟩
   exact ⟨_,rfl,q _ _ _ (Int.emod_nonneg _ (by omega)) (Int.emod_lt_of_pos _ hm0) hr0 hr1⟩
  ·have e1:∀ t:Int,0≤t % 2147483647∧t % 2147483647 < 2147483647:=fun t=>⟨Int.emod_nonneg _ (by decide),Int.emod_lt_of_pos _ (by decide)⟩
   refine ⟨_,rfl,p,_,1,_,rfl,rfl,a7.of hp,i1 _ _,_,_,rfl,rfl,.inl ⟨by omega,by omega⟩,_,_,rfl,rfl,_,_,rfl,rfl,(by show (0:Int) < 2147483647; decide),_,rfl,p,_,1,1,rfl,rfl,hp,n1 _ _,?_⟩
   refine ⟨_,rfl,p,_,1,_,rfl,rfl,a7.of ag,i1 _ _,_,rfl,p,_,1,_,rfl,rfl,a7.of ag,i1 _ _,_,_,rfl,rfl,.inl ⟨by omega,by omega⟩,_,_,rfl,rfl,(by show (0:Int) < 2147483629; decide),_,_,rfl,rfl,⟨by decide,by decide⟩,?_⟩
   refine ⟨_,rfl,_,_,rfl,rfl,⟨by decide,by decide,by decide⟩,_,_,rfl,rfl,_,rfl,?_⟩
   refine bF (fun h2=>?_) (fun h2=>?_)
   ·refine ⟨_,rfl,p,_,1,_,rfl,rfl,a7.of ag,i1 _ _,_,_,rfl,rfl,.inl ⟨by omega,by omega⟩,_,_,rfl,rfl,_,_,rfl,rfl,(by show (0:Int) < 2147483647; decide),_,rfl,p,_,1,1,rfl,rfl,ag,n1 _ _,?_⟩
    rw [wN]
    refine ⟨_,rfl,_,_,rfl,rfl,.inr ⟨by decide,by decide⟩,_,rfl,p,_,1,_,rfl,rfl,a7.of ag,i1 _ _,_,rfl,p,_,1,_,rfl,rfl,a7.of ag,i1 _ _,_,_,rfl,rfl,.inl ⟨by omega,by omega⟩,_,_,rfl,rfl,(by show (0:Int) < 2147483587; decide),_,_,rfl,rfl,?_⟩
    exact ⟨_,rfl,_,rfl,_,_,rfl,rfl,hm0,q _ _ _ (Int.emod_nonneg _ (by omega)) (Int.emod_lt_of_pos _ hm0) (e1 _).1 (e1 _).2⟩
   ·exact ⟨_,rfl,_,rfl,_,_,rfl,rfl,hm0,q _ _ _ (Int.emod_nonneg _ (by omega)) (Int.emod_lt_of_pos _ hm0) (e1 _).1 (e1 _).2⟩
def Ar (H:Hp)(Q:VK)(t b:Int):Prop:=∀ (H':Hp)(a:Addr),aA H H'->H' a=some (bA t b)->Q (.ref a) H'
theorem Ar.of {H H':Hp}{Q:VK}{t b:Int}(q:Ar H Q t b)(S:aA H H'):∀ a,H' a=none->Q (.ref a) (upd H' a (bA t b)):=fun a ha=>q _ a (S.trans (ak ha)) ag
def spLLow:Sp:=fun vs H Q _=>∃ t b:Int,vs=[.int t,.int b]∧b≠0∧B 9000 b∧B 9000 t∧Ar H Q (cV t b) (bY t b)
def spMake:Sp:=fun vs H Q _=>∃ p t b:Int,vs=[.int p,.int t,.int b]∧FP p∧b≠0∧B 9000 b∧B 9000 t∧(p≠0->b=1)∧Ar H Q (eF p t b) (eE p t b)
def ij (g:Int->Int->Int->Int->Int):Sp:=fun vs H Q _=>∃ (p t1 b1 t2 b2:Int)(a1 a2:Addr),vs=[.int p,.ref a1,.ref a2]∧FP p∧H a1=some (bA t1 b1)∧H a2=some (bA t2 b2)∧B 4000 t1∧B 4000 b1∧B 4000 t2∧B 4000 b2∧b1≠0∧b2≠0∧(p≠0->b1 * b2=1) ∧
 Ar H Q (eF p (g t1 b1 t2 b2) (b1 * b2)) (eE p (g t1 b1 t2 b2) (b1 * b2))
abbrev A4:List Str:=["_law_top","_law_bottom","_law_one","_law_other","_law_sign"]
theorem i6:FnScope A4 ["_law_top","_law_bottom"] (ao xZ):=dB (by decide +kernel)
theorem x6 (c:Int):(if c < 0 then -c else c)=ab c:=rfl
theorem wZ {f:Addr}{fd:FuncData}(F:Fun K "_law_lowest" "_law_lowest" xZ f fd)(mA:mg "abs"=none)(mI:mg "int"=none):FnOk P w K mg base (bh P w) 1 f fd ["_law_top","_law_bottom"] spLLow:=by
 refine F.okN i6 (fun vs H Q E h=>?_) (fun cdv A outer s H vs Q E hr h=>?_)
 ·obtain ⟨a,b,rfl,_⟩:=h
  rfl
 ·obtain ⟨t,b,rfl,hb,hB,hT,q⟩:=h
  refine ⟨_,ai (aJ (i:=2) i6.nd rfl (Or.inl rfl) (aH cN (by rfl) mA (by rfl) (aj (pv 0) af)))
   (ai (aJ (i:=3) i6.nd rfl (Or.inl rfl) (aH cN (by rfl) mA (by rfl) (aj (pv 1) af)))
   (ai (ip PassesOwn.never (aE dw (pv 3) ah (ax _)) (aq (vF (i:=2) (j:=3) rfl i6.nd rfl rfl (by decide) rfl rfl (aj (pv 3) (aj (aD qd (pv 2) (pv 3)) af)) rfl)))
   (ai (aJ (i:=4) i6.nd rfl (Or.inl rfl) (aK bc (bf (aj ah (aj (vX n8 ah) af))) (aQ cK (by rfl) mI (by rfl) (aj (bp gO (pv 1) ah (ax _)) af)) (fun _ _=>rfl)))
   (aq (az (bK (aj (aD dU (aD c6 (pv 4) (pv 0)) (pv 2)) (aj (aD dU (aH cN (by rfl) mA (by rfl) (aj (pv 1) af)) (pv 2)) af)))))))),?_⟩
  refine ⟨_,rfl,t,rfl,_,rfl,b,rfl,?_⟩
  rw [x6,x6]
  refine ⟨fun m σ H'=>∃ c d:Int,σ=[some (.int t),some (.int b),some (.int c),some (.int d),none]∧H'=H∧m=d.natAbs∧Int.gcd c d=Int.gcd t b∧0≤c∧0≤d,⟨_,ab t,ab b,rfl,rfl,rfl,yM t b,by rw [jq]; omega,by rw [jq]; omega⟩,?_⟩
  rintro m σ H' ⟨c,d,rfl,rfl,rfl,hg,hc0,hd0⟩
  refine ⟨_,rfl,rfl,_,rfl,?_⟩
  refine bF (fun h=>?_) (fun h=>?_)
  ·have hd:d≠0:=by simpa using h
   refine ⟨fun σ' H''=>∃ c' d':Int,σ'=[some (.int t),some (.int b),some (.int c'),some (.int d'),none]∧H''=H'∧d'.natAbs < d.natAbs∧Int.gcd c' d'=Int.gcd t b∧0≤c'∧0≤d',fun σ' H'' ⟨c',d',e1,e2,e3,e4,e5,e6⟩=>⟨_,e3,c',d',e1,e2,rfl,e4,e5,e6⟩,?_⟩
   refine ⟨_,rfl,_,rfl,_,rfl,_,_,rfl,rfl,hd,_,_,rfl,d,c.fmod d,rfl,rfl,qM c d hd,by rw [nZ,hg],hd0,Int.fmod_nonneg_of_pos c (by omega)⟩
  ·have hd:d=0:=by simpa using h
   subst hd
   have eg:c=cg t b:=by
    unfold cg
    rw [← hg]
    simp
    omega
   have gp:=dj (t:=t) hb
   have hgB:B 9000 (cg t b):=hB.le (yT hb)
   subst eg
   refine ⟨_,rfl,f9,fun z hz=>?_⟩
   have S:=ak (o:=.lst [V.int 1,V.int (-1)]) hz
   refine ⟨_,rfl,_,_,rfl,rfl,.inr ⟨_,rfl,?_⟩⟩
   have hat:pA [V.int 1,V.int (-1)] (if decide (b < 0)=true then 1 else 0)=some (.int (sg b)):=by
    unfold sg
    by_cases hb0:b < 0
    ·simp [hb0]; rfl
    ·simp [hb0]; rfl
   refine ⟨z,_,_,_,rfl,rfl,a7.of ag,hat,?_⟩
   have sg1:-1≤sg b∧sg b≤1:=by unfold sg; split <;> decide
   refine ⟨_,rfl,_,rfl,_,_,rfl,rfl,.inl ⟨by omega,by omega⟩,_,rfl,_,_,rfl,rfl,⟨by omega,hgB⟩,_,rfl,b,rfl,_,rfl,_,_,rfl,rfl,⟨by omega,hgB⟩,f9,fun a ha=>?_⟩
   have y:=q.of S a ha
   rw [← Ay (t:=t) hb,← An (t:=t) hb] at y
   exact y
theorem yx:FnScope ["_law_prime_here","_law_top","_law_bottom"] ["_law_prime_here","_law_top","_law_bottom"] (ao xI):=dB (by decide +kernel)
theorem xm {f fl:Addr}{fd fdl:FuncData}(F:Fun K "_law_make" "_law_make" xI f fd)(FL:FnOk P w K mg base (bh P w) 1 fl fdl ["_law_top","_law_bottom"] spLLow)(bL:L2.ay K fdl ["_law_top","_law_bottom"] [])(mL:mg "_law_lowest"=some (.ref fl))(kL:keepIn K (.ref fl)=true):
 FnOk P w K mg base (bh P w) 2 f fd ["_law_prime_here","_law_top","_law_bottom"] spMake:=by
 refine F.okN yx (fun vs H Q E h=>?_) (fun cdv A outer s H vs Q E hr h=>?_)
 ·obtain ⟨p,t,b,rfl,_⟩:=h
  rfl
 ·obtain ⟨p,t,b,rfl,hp,hb,hB,hT,h1,q⟩:=h
  refine ⟨_,ai (bt (aE cx (pv 0) ah (ax _)) (aq (az (av FL hr (by rfl) mL kL bL .nil ae (aj (pv 1) (aj (pv 2) af))))) aO)
   (ai (bt (aE dw (aD cO (pv 2) (pv 0)) ah (ax _)) rV aO)
   (aq (az (bK (aj (aD cO (pv 1) (pv 0)) (aj ah af)))))),?_⟩
  refine ⟨_,rfl,rfl,_,rfl,?_⟩
  refine bF (fun h=>?_) (fun h=>?_)
  ·have hp0:p=0:=by simpa using h
   unfold eF eE at q
   rw [if_pos hp0,if_pos hp0] at q
   exact ⟨_,rfl,_,rfl,t,b,rfl,hb,hB,hT,q⟩
  ·have hp0:p≠0:=by simpa using h
   obtain ⟨hpp,p2,p97⟩:=hp.two hp0
   have hb1:=h1 hp0
   subst hb1
   refine ⟨_,rfl,_,rfl,_,_,rfl,rfl,(by show (0:Int) < p; omega),rfl,_,rfl,?_⟩
   have e1:(1:Int) % p=1:=Int.emod_eq_of_lt (by decide) (by omega)
   refine bF (fun h=>absurd h (by simp [e1])) (fun _=>?_)
   unfold eF eE at q
   rw [if_neg hp0,if_neg hp0] at q
   exact ⟨_,rfl,_,rfl,_,_,rfl,rfl,(by show (0:Int) < p; omega),f9,q.of (aA.refl _)⟩
theorem wF:FnScope ["_law_prime_here","_law_one","_law_other"] ["_law_prime_here","_law_one","_law_other"] (ao uD):=dB (by decide +kernel)
theorem vA {f fl:Addr}{fd fdl:FuncData}(F:Fun K "_law_plus" "_law_plus" uD f fd)(FL:FnOk P w K mg base (bh P w) 2 fl fdl ["_law_prime_here","_law_top","_law_bottom"] spMake)(bL:L2.ay K fdl ["_law_prime_here","_law_top","_law_bottom"] [])(mL:mg "_law_make"=some (.ref fl))(kL:keepIn K (.ref fl)=true):
 FnOk P w K mg base (bh P w) 3 f fd ["_law_prime_here","_law_one","_law_other"] (ij gK):=by
 refine F.okN wF (fun vs H Q E h=>?_) (fun cdv A outer s H vs Q E hr h=>?_)
 ·obtain ⟨p,t1,b1,t2,b2,x1,x2,rfl,_⟩:=h
  rfl
 ·obtain ⟨p,t1,b1,t2,b2,x1,x2,rfl,hp,h1,h2,B1,B2,B3,B4,n1,n2,hb,q⟩:=h
  refine ⟨_,aq (az (av FL hr (by rfl) mL kL bL .nil ae (aj (pv 0) (aj (aD dN (aD cY (aK aS (pv 1) ah (fun _ _=>rfl)) (aK aS (pv 2) ah (fun _ _=>rfl))) (aD cY (aK aS (pv 2) ah (fun _ _=>rfl)) (aK aS (pv 1) ah (fun _ _=>rfl)))) (aj (aD cY (aK aS (pv 1) ah (fun _ _=>rfl)) (aK aS (pv 2) ah (fun _ _=>rfl))) af))))),?_⟩
  refine ⟨_,rfl,?_⟩
  refine ⟨_,rfl,x1,_,0,_,rfl,rfl,bg.of h1,a0 _ _,_,rfl,x2,_,1,_,rfl,rfl,bg.of h2,a1 _ _,_,_,rfl,rfl,⟨B1.mono (by decide),B4.mono (by decide)⟩,?_⟩
  refine ⟨_,rfl,x2,_,0,_,rfl,rfl,bg.of h2,a0 _ _,_,rfl,x1,_,1,_,rfl,rfl,bg.of h1,a1 _ _,_,_,rfl,rfl,⟨B3.mono (by decide),B2.mono (by decide)⟩,_,_,rfl,rfl,?_⟩
  refine ⟨_,rfl,x1,_,1,_,rfl,rfl,bg.of h1,a1 _ _,_,rfl,x2,_,1,_,rfl,rfl,bg.of h2,a1 _ _,_,_,rfl,rfl,⟨B2.mono (by decide),B4.mono (by decide)⟩,?_⟩
  exact ⟨p,_,_,rfl,hp,pI n1 n2,(B2.mul B4).mono (by decide),((B1.mul B4).add (B3.mul B2)).mono (by decide),hb,q⟩
abbrev vK:Stmt:=(aY 41)
abbrev qj:Stmt:=(aY 42)
def a9 (H:Hp)(r:Addr):Prop:=∃ l x:Int,H r=some (.lst [.int l,.int x])∧0≤x∧x < 2147483647
def SameBut (r:Addr)(H H':Hp):Prop:=∀ b o,H b=some o->b≠r->H' b=some o
theorem SameBut.trans {r:Addr}{H H1 H2:Hp}(a:SameBut r H H1)(b:SameBut r H1 H2):SameBut r H H2:=fun c o e n=>b c o (a c o e n) n
theorem SameBut.of {r:Addr}{H H1:Hp}(a:aA H H1):SameBut r H H1:=fun c o e _=>a c o e
theorem SameBut.upd {r:Addr}{H:Hp}{o:HO}:SameBut r H (upd H r o):=fun b u e n=>by rw [ar n]; exact e
def spPrimeL:Sp:=fun vs H Q _=>∃ r:Addr,vs=[.ref r]∧a9 H r∧∀ (p:Int)(H':Hp),FP p->a9 H' r->SameBut r H H'->Q (.int p) H'
def spNumber:Sp:=fun vs H Q _=>∃ (r:Addr)(p:Int),vs=[.ref r,.int p]∧FP p∧a9 H r∧∀ (a:Addr)(t b:Int)(H':Hp),Num p t b->B 45 t->B 45 b->H' a=some (bA t b)->a9 H' r->SameBut r H H'->Q (.ref a) H'
theorem zh {K:Frag}{H:Hp}{a:Addr}{t b:Int}(h:H a=some (bA t b)):aF K H (.tup [.int t,.int b]) (.ref a):=by
 unfold aF
 refine ⟨a,_,rfl,bg.of h,?_⟩
 unfold aV
 refine ⟨_,_,rfl,by unfold aF; rfl,?_⟩
 unfold aV
 refine ⟨_,_,rfl,by unfold aF; rfl,?_⟩
 unfold aV
 rfl
theorem Aw (t b:Int):iX (.tup [.int t,.int b])=1:=by simp [iX,dt]
theorem BB (t b u d:Int):cT (.tup [.int t,.int b]) (.tup [.int u,.int d])=(t == u&&b == d):=by simp [cT,cD]
theorem gX {xs:List Int}{w:Int}(h0:0≤w)(h1:w < xs.length):∃ x∈xs,pA (xs.map V.int) w=some (.int x):=by
 have hl:w.toNat < xs.length:=by omega
 refine ⟨xs[w.toNat],List.getElem_mem hl,?_⟩
 have z:=hU (xs:=xs.map V.int) (j:=w.toNat) (v:=V.int xs[w.toNat]) (by rw [List.getElem?_map]; simp [hl])
 have e:((w.toNat:Nat):Int)=w:=by omega
 rw [e] at z
 exact z
theorem iC:FnScope ["_law_room_here","_law_at","_law_some"] ["_law_room_here"] (ao vK):=dB (by decide +kernel)
set_option maxHeartbeats 1000000 in
theorem sY {f ft:Addr}{fd fdt:FuncData}(F:Fun K "_law_prime" "_law_prime" vK f fd)(FT:FnOk P w K mg base (bh P w) 1 ft fdt ["_law_room_here","_law_many"] spTake)(bT:L2.ay K fdt ["_law_room_here","_law_many"] [])(mT:mg "_law_take"=some (.ref ft))(kT:keepIn K (.ref ft)=true):
 FnOk P w K mg base (bh P w) 2 f fd ["_law_room_here"] spPrimeL:=by
 refine F.okN iC (fun vs H Q E h=>?_) (fun cdv A outer s H vs Q E hr h=>?_)
 ·obtain ⟨r,rfl,_⟩:=h
  rfl
 ·obtain ⟨r,rfl,⟨l,x,hR,x0,x1⟩,q⟩:=h
  refine ⟨_,ai (aJ (i:=1) iC.nd rfl (Or.inl rfl) (av FT hr (by rfl) mT kT bT .nil ae (aj (pv 0) (aj ah af))))
   (ai (bt (aE cx (pv 1) ah (ax _))
    (@ai _ _ _ _ _ (@aJ _ _ 2 _ _ _ _ iC.nd rfl (Or.inl rfl) (@lj _ _ _ [11,13,17,19,23,29,31,37,41,43,47,53,59,61,67,71,73,79,83,89] rfl (by decide)) rfl (Or.inl rfl))
    (aq (az (aK bc (pv 2) (av FT hr (by rfl) mT kT bT .nil ae (aj (pv 0) (aj ah af))) (fun _ _=>rfl))))) aO)
   (@aq _ _ _ (@az _ _ _ _ (@aK _ _ _ _ _ _ _ bc (@lj _ _ _ [0,0,2,3,5,7,97,0] rfl (by decide)) (pv 1) (fun _ _=>rfl))))),?_⟩
  refine ⟨_,rfl,r,l,x,9,rfl,hR,x0,x1,by decide,by decide,fun z l2 r2 z0 z1 g0 g1=>?_⟩
  refine ⟨_,rfl,rfl,_,rfl,?_⟩
  have hR2:(upd H r (.lst [.int l2,.int r2])) r=some (.lst [.int l2,.int r2]):=ag
  have S2:SameBut r H (upd H r (.lst [.int l2,.int r2])):=SameBut.upd
  generalize (upd H r (.lst [.int l2,.int r2]))=H2 at hR2 S2 ⊢
  refine bF (fun h=>?_) (fun h=>?_)
  ·refine fun m hm=>?_
   have S3:=ak (o:=.lst ([11,13,17,19,23,29,31,37,41,43,47,53,59,61,67,71,73,79,83,89].map V.int)) hm
   have em:(upd H2 m (.lst ([11,13,17,19,23,29,31,37,41,43,47,53,59,61,67,71,73,79,83,89].map V.int))) m=some (.lst ([11,13,17,19,23,29,31,37,41,43,47,53,59,61,67,71,73,79,83,89].map V.int)):=ag
   have hR3:=S3 _ _ hR2
   refine ⟨_,rfl,_,rfl,r,l2,r2,20,rfl,hR3,g0,g1,by decide,by decide,fun z' l3 r3 z0' z1' g0' g1'=>?_⟩
   obtain ⟨y,hy,hat⟩:=gX (xs:=[11,13,17,19,23,29,31,37,41,43,47,53,59,61,67,71,73,79,83,89]) z0' z1'
   have nm:m≠r:=mx em hR3 (by intro z; cases z)
   refine ⟨m,_,z',_,rfl,rfl,a7.of (by rw [ar nm]; exact em),hat,?_⟩
   have all:∀ y∈([11,13,17,19,23,29,31,37,41,43,47,53,59,61,67,71,73,79,83,89]:List Int),y∈primes:=by decide
   exact q y _ (.inr (all y hy)) ⟨l3,r3,ag,g0',g1'⟩ ((S2.trans (SameBut.of S3)).trans SameBut.upd)
  ·have hz:z < 8:=by
    have:z≠8:=by simpa using h
    omega
   refine fun m hm=>?_
   have S3:=ak (o:=.lst ([0,0,2,3,5,7,97,0].map V.int)) hm
   have em:(upd H2 m (.lst ([0,0,2,3,5,7,97,0].map V.int))) m=some (.lst ([0,0,2,3,5,7,97,0].map V.int)):=ag
   obtain ⟨y,hy,hat⟩:=gX (xs:=[0,0,2,3,5,7,97,0]) z0 hz
   refine ⟨_,rfl,m,_,z,_,rfl,rfl,a7.of em,hat,?_⟩
   have all:∀ y∈([0,0,2,3,5,7,97,0]:List Int),y=0∨y∈primes:=by decide
   exact q y _ (all y hy) ⟨l2,r2,S3 _ _ hR2,g0,g1⟩ (S2.trans (SameBut.of S3))
theorem uB:FnScope ["_law_room_here","_law_prime_here"] ["_law_room_here","_law_prime_here"] (ao qj):=dB (by decide +kernel)
theorem qI {H H2:Hp}{Q:VK}{r:Addr}{t b:Int}(q:∀ (a:Addr)(t b:Int)(H':Hp),Num 0 t b->B 45 t->B 45 b->H' a=some (bA t b)->a9 H' r->SameBut r H H'->Q (.ref a) H')(hb:0 < b)(hB:B 45 b)(hT:B 45 t)(hR:a9 H2 r)(S:SameBut r H H2):spLLow [.int t,.int b] H2 Q fun _ _ _=>False:=by
 have hb0:b≠0:=by omega
 refine ⟨t,b,rfl,hb0,hB.mono (by decide),hT.mono (by decide),fun H' a S' e=>?_⟩
 refine q a _ _ H' (Num.low hb0) (hT.le (qt hb0)) (hB.le (qv hb0)) e ?_ (S.trans (SameBut.of S'))
 obtain ⟨l,x,h,z⟩:=hR
 exact ⟨l,x,S' _ _ h,z⟩
set_option maxHeartbeats 1000000 in
theorem sS {f ft fl:Addr}{fd fdt fdl:FuncData}(F:Fun K "_law_number" "_law_number" qj f fd)(FT:FnOk P w K mg base (bh P w) 1 ft fdt ["_law_room_here","_law_many"] spTake)(bT:L2.ay K fdt ["_law_room_here","_law_many"] [])(mT:mg "_law_take"=some (.ref ft))(kT:keepIn K (.ref ft)=true)
 (FL:FnOk P w K mg base (bh P w) 1 fl fdl ["_law_top","_law_bottom"] spLLow)(bL:L2.ay K fdl ["_law_top","_law_bottom"] [])(mL:mg "_law_lowest"=some (.ref fl))(kL:keepIn K (.ref fl)=true):
 FnOk P w K mg base (bh P w) 2 f fd ["_law_room_here","_law_prime_here"] spNumber:=by
 refine F.okN uB (fun vs H Q E h=>?_) (fun cdv A outer s H vs Q E hr h=>?_)
 ·obtain ⟨r,p,rfl,_⟩:=h
  rfl
 ·obtain ⟨r,p,rfl,hp,⟨l,x,hR,x0,x1⟩,q⟩:=h
  refine ⟨_,ai (bt (aE pY (pv 1) ah (ax _)) (aq (az (bK (aj (av FT hr (by rfl) mT kT bT .nil ae (aj (pv 0) (aj (pv 1) af))) (aj ah af))))) aO)
   (ai (bt (aE cx (av FT hr (by rfl) mT kT bT .nil ae (aj (pv 0) (aj ah af))) ah (ax _))
    (aq (az (av FL hr (by rfl) mL kL bL .nil ae
     (aj (aD oU (av FT hr (by rfl) mT kT bT .nil ae (aj (pv 0) (@aj _ _ _ _ _ (@aD _ _ _ _ _ _ _ _ c6 ah (@aD _ _ _ _ _ _ _ _ gB ah ah)) af rfl))) (@aD _ _ _ _ _ _ _ _ gB ah ah))
     (@aj _ _ _ _ _ (@aK _ _ _ _ _ _ _ bc (@bf _ _ _ _ (@aj _ _ _ _ _ ah (@aj _ _ _ _ _ ah (@aj _ _ _ _ _ (@aD _ _ _ _ _ _ _ _ gB ah ah) (@aj _ _ _ _ _ (@aD _ _ _ _ _ _ _ _ dN (@aD _ _ _ _ _ _ _ _ gB ah ah) ah) af rfl) rfl) rfl) rfl))
       (av FT hr (by rfl) mT kT bT .nil ae (aj (pv 0) (aj ah af))) (fun _ _=>rfl)) af rfl))))) aO)
   (aq (az (av FL hr (by rfl) mL kL bL .nil ae
    (aj (aD oU (av FT hr (by rfl) mT kT bT .nil ae (aj (pv 0) (aj ah af))) ah)
    (@aj _ _ _ _ _ (@aK _ _ _ _ _ _ _ bc (@lj _ _ _ [1,1,2,3] rfl (by decide)) (av FT hr (by rfl) mT kT bT .nil ae (aj (pv 0) (aj ah af))) (fun _ _=>rfl)) af rfl)))))),?_⟩
  refine ⟨_,rfl,_,_,rfl,rfl,_,rfl,?_⟩
  refine bF (fun h=>?_) (fun h=>?_)
  ·have hp0:0 < p:=by simpa using h
   obtain ⟨_,p2,p97⟩:=hp.two (by omega)
   refine ⟨_,rfl,_,rfl,r,l,x,p,rfl,hR,x0,x1,hp0,by omega,fun z l2 r2 z0 z1 g0 g1=>?_⟩
   refine ⟨f9,fun a ha=>?_⟩
   have S:=ak (o:=bA z 1) ha
   refine q a z 1 _ (Num.ofP z0 z1) ?_ (by show (1:Int).natAbs < 2 ^ 45; decide) ag ⟨l2,r2,S _ _ ag,g0,g1⟩ (SameBut.upd.trans (SameBut.of S))
   show z.natAbs < 2 ^ 45
   omega
  ·have hp0:p=0:=by
    have:=hp.nn
    have h':¬ 0 < p:=by simpa using h
    omega
   subst hp0
   refine ⟨_,rfl,r,l,x,8,rfl,hR,x0,x1,by decide,by decide,fun z l2 r2 z0 z1 g0 g1=>⟨rfl,_,rfl,?_⟩⟩
   have hR2:(upd H r (.lst [.int l2,.int r2])) r=some (.lst [.int l2,.int r2]):=ag
   have S2:SameBut r H (upd H r (.lst [.int l2,.int r2])):=SameBut.upd
   generalize (upd H r (.lst [.int l2,.int r2]))=H2 at hR2 S2 ⊢
   refine bF (fun h=>?_) (fun h=>?_)
   ·refine ⟨_,rfl,_,_,rfl,rfl,⟨by decide,by decide,by decide⟩,_,_,rfl,rfl,.inl ⟨by decide,by decide⟩,r,l2,r2,_,rfl,hR2,g0,g1,by decide,by decide,fun y l3 r3 y0 y1 k0 k1=>?_⟩
    refine ⟨_,_,rfl,rfl,⟨by decide,by decide,by decide⟩,_,_,rfl,rfl,?_⟩
    refine ⟨_,_,rfl,rfl,⟨by decide,by decide,by decide⟩,_,_,rfl,rfl,⟨by decide,by decide,by decide⟩,_,_,rfl,rfl,Cf,fun m hm=>?_⟩
    have S3:SameBut r H2 (upd H2 r (.lst [.int l3,.int r3])):=SameBut.upd
    have hR3:(upd H2 r (.lst [.int l3,.int r3])) r=some (.lst [.int l3,.int r3]):=ag
    generalize (upd H2 r (.lst [.int l3,.int r3]))=H3 at hm S3 hR3 ⊢
    have S4:=ak (o:=.lst ([1,7,10 ^ (6:Int).toNat,10 ^ (12:Int).toNat + 39].map V.int)) hm
    have em:(upd H3 m (.lst ([1,7,10 ^ (6:Int).toNat,10 ^ (12:Int).toNat + 39].map V.int))) m=some (.lst ([1,7,10 ^ (6:Int).toNat,10 ^ (12:Int).toNat + 39].map V.int)):=ag
    have hR4:=S4 _ _ hR3
    refine ⟨_,rfl,r,l3,r3,4,rfl,hR4,k0,k1,by decide,by decide,fun v l4 r4 v0 v1 j0 j1=>?_⟩
    have nm:m≠r:=mx em hR4 (by intro z; cases z)
    obtain ⟨b,hb,hat⟩:=gX (xs:=[1,7,10 ^ (6:Int).toNat,10 ^ (12:Int).toNat + 39]) v0 v1
    refine ⟨m,_,v,_,rfl,rfl,a7.of (by rw [ar nm]; exact em),hat,?_⟩
    have bb:∀ b∈([1,7,10 ^ (6:Int).toNat,10 ^ (12:Int).toNat + 39]:List Int),0 < b∧b.natAbs < 2 ^ 45:=by decide
    obtain ⟨b0,bB⟩:=bb b hb
    refine qI (H:=H) q b0 bB ?_ ⟨l4,r4,ag,j0,j1⟩ (((S2.trans S3).trans (SameBut.of S4)).trans SameBut.upd)
    have e1:(2:Int) * 10 ^ (12:Int).toNat=2000000000000:=by decide
    have e2:(10:Int) ^ (12:Int).toNat=1000000000000:=by decide
    rw [e1] at y1
    show (y - 10 ^ (12:Int).toNat).natAbs < 2 ^ 45
    rw [e2]
    omega
   ·refine ⟨_,rfl,r,l2,r2,19,rfl,hR2,g0,g1,by decide,by decide,fun y l3 r3 y0 y1 k0 k1=>?_⟩
    refine ⟨_,_,rfl,rfl,fun m hm=>?_⟩
    have S3:SameBut r H2 (upd H2 r (.lst [.int l3,.int r3])):=SameBut.upd
    have hR3:(upd H2 r (.lst [.int l3,.int r3])) r=some (.lst [.int l3,.int r3]):=ag
    generalize (upd H2 r (.lst [.int l3,.int r3]))=H3 at hm S3 hR3 ⊢
    have S4:=ak (o:=.lst ([1,1,2,3].map V.int)) hm
    have em:(upd H3 m (.lst ([1,1,2,3].map V.int))) m=some (.lst ([1,1,2,3].map V.int)):=ag
    have hR4:=S4 _ _ hR3
    refine ⟨_,rfl,r,l3,r3,4,rfl,hR4,k0,k1,by decide,by decide,fun v l4 r4 v0 v1 j0 j1=>?_⟩
    have nm:m≠r:=mx em hR4 (by intro z; cases z)
    obtain ⟨b,hb,hat⟩:=gX (xs:=[1,1,2,3]) v0 v1
    refine ⟨m,_,v,_,rfl,rfl,a7.of (by rw [ar nm]; exact em),hat,?_⟩
    have bb:∀ b∈([1,1,2,3]:List Int),0 < b∧b.natAbs < 2 ^ 45:=by decide
    obtain ⟨b0,bB⟩:=bb b hb
    refine qI (H:=H) q b0 bB ?_ ⟨l4,r4,ag,j0,j1⟩ (((S2.trans S3).trans (SameBut.of S4)).trans SameBut.upd)
    show (y - 9).natAbs < 2 ^ 45
    omega
end K05
namespace L2
open PySem PySem.Spec PyProof.Rows PySem.W
end L2
namespace K05
open PySem L2 PySem.W Nm
abbrev jS:Stmt:=ba (aY 33) 11
theorem Th.same {H H':Hp}{x:V}{T:String}(h:Th H x T)(s:aA H H'):Th H' x T:=by
 cases h with
 | non=>exact .non
 | bl b=>exact .bl b
 | int i=>exact .int i
 | str x=>exact .str x
 | lst e=>exact .lst (s _ _ e)
 | tup e=>exact .tup (s _ _ e)
 | dK e=>exact .dK (s _ _ e)
inductive TX (H:Hp):V->Option (V × V)->Prop where
 | no {x:V}{T:String}:Th H x T->T ≠ "tuple"->TX H x none
 | odd {a:Addr}{xs:List V}:H a=some (.tup xs)->xs.length≠2->TX H (.ref a) none
 | two {a:Addr}{y z:V}{Ty Tz:String}:H a=some (.tup [y,z])->Th H y Ty->Th H z Tz->TX H (.ref a) (some (y,z))
theorem TX.same {H H':Hp}{x:V}{o:Option (V × V)}(h:TX H x o)(s:aA H H'):TX H' x o:=by
 cases h with
 | no th n=>exact .no (th.same s) n
 | odd e n=>exact .odd (s _ _ e) n
 | two e h1 h2=>exact .two (s _ _ e) (h1.same s) (h2.same s)
def uC (p:Int):Option (V × V)->Bool
 | some (.int t,.int b)=>if p=0 then decide (1≤b)&&decide (Int.gcd t b=1) else decide (b=1)&&(decide (0≤t)&&decide (t < p))
 | _=>false
theorem Th.isTup {K:Frag}{H:Hp}{x:V}{T:String}(h:Th H x T):kitOne K (.type T) (.type "tuple")=some (decide (T="tuple")):=by cases h <;> rfl
def iw (C:Addr):Sp:=fun vs H Q _=>∃ (s dx:Addr)(p:Int)(x:V)(o:Option (V × V)),vs=[.ref s,x]∧H s=some (.ins C dx (eC p))∧FP p∧TX H x o∧Q (.bl (uC p o)) H
variable {P:Program}{w:World}{K:PySem.W.Frag}{mg:Str->Option Value}{base:Heap}
theorem eY:FnScope ["self","thing","top","bottom"] ["self","thing"] (ao jS):=dB (by decide +kernel)
theorem mH {f C fg fw:Addr}{fd fdg fdw:FuncData}{tF:Tok}(F:Fun K "is_number" "Field.is_number" jS f fd)(c:FieldK K mg C)(mF:mg "FRACTIONS"=some (.int 0 tF))(n:Nones mg)(mT:mg "tuple"=none)(mN:mg "len"=none)
 (FG:FnOk P w K mg base (bh P w) 1 fg fdg ["one","other"] spGcd)(bG:L2.ay K fdg ["one","other"] [])(mG:mg "common_divisor"=some (.ref fg))(kG:keepIn K (.ref fg)=true)
 (FW:FnOk P w K mg base (bh P w) 1 fw fdw ["thing"] spWhole)(bW:L2.ay K fdw ["thing"] [])(mW:mg "is_whole"=some (.ref fw))(kW:keepIn K (.ref fw)=true):FnOk P w K mg base (bh P w) 2 f fd ["self","thing"] (iw C):=by
 refine F.okN eY (fun vs H Q E h=>?_) (fun cdv A outer s H vs Q E hr h=>?_)
 ·obtain ⟨s,dx,p,x,o,rfl,_⟩:=h
  rfl
 ·obtain ⟨s,dx,p,x,o,rfl,hs,hp,tx,q⟩:=h
  refine ⟨_,ai (bt (PW.pt (dh (cz (c7 (aH bx (by rfl) n.isi (by rfl) (aj (pv 1) (aj (eu (by rfl) mT (by rfl) (show aC (.ty "tuple") (.type "tuple") from rfl)) af)))))
   (cL (aE dw (aH bD (by rfl) mN PySem.boot_len (aj (pv 1) af)) ah (ax _))))) (aq (az gI)) aO)
   (ai (eZ (pv 1) (cH rfl (aN (aG (i:=2) eY.nd rfl (Or.inl rfl)) (aN (aG (i:=3) eY.nd rfl (Or.inl rfl)) b7))))
   (ai (bt (PW.pt (dh (cz (c7 (av FW hr (by rfl) mW kW bW .nil ae (aj (pv 2) af)))) (cL (cz (c7 (av FW hr (by rfl) mW kW bW .nil ae (aj (pv 3) af))))))) (aq (az gI)) aO)
   (ai (bt (aE cx (ck (pv 0) rfl) (cj (by rfl) mF (show aC (.int 0) (.int 0 tF) from ⟨_,rfl⟩)) (ax _))
    (aq (az (c8 (bp ud (pv 3) ah (ax _)) (fj (bp cx (av FG hr (by rfl) mG kG bG .nil ae (aj (pv 2) (aj (pv 3) af))) ah (ax _)))))) aO)
   (aq (az (c8 (bp cx (pv 3) ah (ax _)) (fj (mV xH gO ah (pv 2) (ck (pv 0) rfl))))))))),?_⟩
  cases tx with
  | @no x T th ne =>
    refine ⟨_,rfl,x,.ty "tuple",_,_,_,rfl,rfl,th.ty,th.isTup,_,rfl,?_⟩
    rw [decide_eq_false ne]
    exact cf (cf q)
  | @odd a xs ha hl =>
    refine ⟨_,rfl,.ref a,.ty "tuple",_,_,_,rfl,rfl,.of (.tup ha),rfl,_,rfl,cq ?_⟩
    refine ⟨_,rfl,a,_,rfl,.inr (bg.of ha),rfl,_,rfl,?_⟩
    refine bF (fun _=>q) (fun h=>absurd (by simp; omega) h)
  | @two a y z Ty Tz ha hy hz =>
    refine ⟨_,rfl,.ref a,.ty "tuple",_,_,_,rfl,rfl,.of (.tup ha),rfl,_,rfl,cq ?_⟩
    refine ⟨_,rfl,a,_,rfl,.inr (bg.of ha),rfl,_,rfl,?_⟩
    refine bF (fun h=>absurd h (by simp)) (fun _=>?_)
    refine ⟨_,rfl,a,_,rfl,bg.of ha,rfl,_,_,rfl,_,_,rfl,rfl,?_⟩
    refine ⟨_,rfl,y,Ty,rfl,hy,_,rfl,?_⟩
    cases e1:cX y with
    | false =>
      have z1:uC p (some (y,z))=false:=by cases y <;> first | rfl | cases e1
      rw [z1] at q
      exact cf (cf q)
    | true =>
      refine cq ⟨_,rfl,z,Tz,rfl,hz,_,rfl,?_⟩
      cases e2:cX z with
      | false =>
        have z1:uC p (some (y,z))=false:=by cases y <;> cases z <;> first | rfl | cases e2
        rw [z1] at q
        exact cf q
      | true =>
        have z1:∃ t,y = .int t:=by cases y <;> first | exact ⟨_,rfl⟩ | cases e1
        have z2:∃ b,z = .int b:=by cases z <;> first | exact ⟨_,rfl⟩ | cases e2
        obtain ⟨t,rfl⟩:=z1
        obtain ⟨b,rfl⟩:=z2
        refine cq ?_
        refine ⟨_,rfl,s,C,dx,_,_,rfl,hs,c.cl,c.nP,rfl,rfl,_,rfl,?_⟩
        refine bF (fun h=>?_) (fun h=>?_)
        ·have hp0:p=0:=by simpa using h
         have z1:uC p (some (.int t,.int b))=(decide (1≤b)&&decide (Int.gcd t b=1)):=by simp [uC,hp0]
         rw [z1] at q
         refine ⟨_,rfl,_,_,rfl,rfl,_,rfl,?_⟩
         refine bF (fun h1=>?_) (fun h1=>?_)
         ·refine ⟨_,rfl,_,rfl,t,b,rfl,rfl,?_⟩
          have e3:decide (V.int (cg t b)=V.int 1)=decide (Int.gcd t b=1):=by
           unfold cg
           by_cases g:Int.gcd t b=1
           ·simp [g]
           ·have:¬ ((Int.gcd t b:Nat):Int)=1:=by omega
            simp [g,this]
          have h1':decide (1≤b)=true:=h1
          rw [h1',Bool.true_and,← e3] at q
          exact q
         ·have h1':decide (1≤b)=false:=by simpa using h1
          rw [h1',Bool.false_and] at q
          exact q
        ·have hp0:p≠0:=by simpa using h
         have z1:uC p (some (.int t,.int b))=(decide (b=1)&&(decide (0≤t)&&decide (t < p))):=by simp [uC,hp0]
         rw [z1] at q
         refine ⟨_,rfl,rfl,_,rfl,?_⟩
         refine bF (fun h1=>?_) (fun h1=>?_)
         ·have h1':decide (b=1)=true:=by simpa using h1
          rw [h1',Bool.true_and] at q
          refine ⟨_,rfl,_,_,rfl,rfl,_,rfl,?_⟩
          refine bF (fun h2=>?_) (fun h2=>?_)
          ·refine ⟨_,rfl,s,C,dx,_,_,rfl,hs,c.cl,c.nP,rfl,_,_,rfl,rfl,?_⟩
           have h2':decide (0≤t)=true:=h2
           rw [h2',Bool.true_and] at q
           exact q
          ·have h2':decide (0≤t)=false:=by simpa using h2
           rw [h2',Bool.false_and] at q
           exact q
         ·have h1':decide (b=1)=false:=by simpa using h1
          rw [h1',Bool.false_and] at q
          exact q
end K05
namespace L2
open PySem PySem.Spec PyProof.Rows PySem.W
def AU:V->Bool->Prop
 | .bl b,c=>c=b
 | .int i,c=>c=(i != 0)
 | _,_=>False
theorem bH {α β:Type}{R:α->β->Prop}:∀ {l:List α}{m:List β}{i:Nat}{a:α},Paired R l m->l[i]?=some a->∃ b,m[i]?=some b∧R a b
 | [],_,i,a,h,e=>by simp at e
 | x :: l,_,i,a,h,e=>by
   cases h with
   | cons h1 h2 =>
     cases i with
     | zero=>simp at e; subst e; exact ⟨_,rfl,h1⟩
     | succ i=>simpa using bH h2 (by simpa using e)
theorem iA {α β:Type}{R:α->β->Prop}:∀ {l:List α}{m:List β}{i:Nat}{b:β},Paired R l m->m[i]?=some b->∃ a,l[i]?=some a∧R a b
 | [],m,i,b,h,e=>by cases h; simp at e
 | x :: l,_,i,b,h,e=>by
   cases h with
   | cons h1 h2 =>
     cases i with
     | zero=>simp at e; subst e; exact ⟨_,rfl,h1⟩
     | succ i=>simpa using iA h2 (by simpa using e)
section
variable {X:Cx}
theorem yS {A:Around}{Q:Bool->Shared->Prop}{E:Value->Shared->Prop}{s:Shared}{y:V}{c:Bool}{u:Value}(t:AU y c)(r:aC y u)(h:Q c s):wpAny (model X.prog X.w) A (truthy u) Q E s:=by
 cases y with
 | bl b =>
   cases (show u=Value.bool b from r)
   cases (show c=b from t)
   exact wpAny_truthy_bool h
 | int i =>
   obtain ⟨k,rfl⟩:=(show ∃ k,u=Value.int i k from r)
   cases (show c=(i != 0) from t)
   exact PyProof.Rows.truthy_int h
 | _=>exact t.elim
theorem nO (hc:X.calm=true):cy X (.builtin "all") (fun xs H Q=>∃ l ys bs,xs=[.ref l]∧a7 X.K H l ys∧Paired AU ys bs∧Q (.bl (bs.all id)) H):=by
 intro pins s σ H xs us Q I r h
 obtain ⟨l,ys,bs,rfl,hl,hp,q⟩:=h
 obtain ⟨u,rfl,ru⟩:=c0 r
 cases (show u=Value.ref l from ru)
 obtain ⟨its,rv,pl,hz⟩:=I.list hl
 have hlt:l < s.heap.objs.size:=by obtain ⟨o,n,e,_⟩:=pl; exact Heap.lt_size e
 refine call_all_walk (wpAny_pyIter_list pl.isList ?_)
 refine ⟨s.heap.objs.size,[s.heap.objs.size,l],[s.heap.objs.size],its.toArray.size,_,_,fun i=>(bs[i]?).getD true,rfl,Walks.list (A:=X.A.in1) (I.ok.hd hc) _ l (Nat.ne_of_lt hlt) its.toArray,
  ⟨⟨_,Heap.get?_push_size _ rfl,rfl,rfl⟩,pl.isList.push _⟩,fun i v s' Q' E' hP hQ=>?_,fun h' tk hk=>?_⟩
 ·have e:its[i]?=some v:=by simpa using hP
  obtain ⟨y,ey,ry⟩:=iA rv e
  obtain ⟨b,eb,tb⟩:=bH hp ey
  simp only [eb,Option.getD_some] at hQ
  exact yS tb ry hQ
 ·have n:its.toArray.size=bs.length:=by rw [List.size_toArray,← rv.length,hp.length]
  have e:((List.range its.toArray.size).all fun i=>(bs[i]?).getD true)=bs.all id:=by rw [n]; exact LSm.range_all bs
  rw [e]
  exact ⟨.bl (bs.all id),H,I.kept (t':=tk) (LSm.kept_iter hk),rfl,q⟩
end
section
variable {X:Cx}{pins:List (Addr × Obj)}{σ:St}{H:Hp}{s:Shared}{h':Heap}
theorem Inv.hnone (I:Inv X pins σ H s){a:Addr}(hp:s.heap.get? a=none):H a=none:=by
 cases q:H a with
 | none=>rfl
 | some u =>
   obtain ⟨ob,e1⟩:=(I.hok a u q).there
   rw [hp] at e1
   cases e1
theorem Inv.newObj {a:Addr}{o:HO}{t':Nat}(I:Inv X pins σ H s)(k:∀ b u,s.heap.get? b=some u->h'.get? b=some u)(hp:s.heap.get? a=none)(new:a8 X.prog X.w (upd H a o) h' a o):
 Inv X pins σ (upd H a o) { s with heap:=h',toks:=t' }:=by
 have hn:=I.hnone hp
 have nb:∀ b u,s.heap.get? b=some u->b≠a:=fun b u e z=>by rw [z,hp] at e; cases e
 exact I.un ⟨fun b u q _ _ _=>k b u q,fun b u q _ _ _=>⟨u.slots,k b u q⟩,fun b u q n _=>by rw [ar (nb b u q)]; exact n,fun b u q _=>⟨u,k b u q⟩,
  fun b xs q=>by rw [ar (au q hn)]; exact q,fun b u xs q=>by rw [ar (au q hn)]; exact q,fun b ps q=>⟨#[],by rw [ar (au q hn),q]; simp⟩⟩ (dn (I.hok.kept k) hn new)
end
end L2
namespace Dit
open PySem PySem.W PyProof.Rows
section
variable {prog:Program}{w:World}{A:Around}{E:Value->Shared->Prop}{s:Shared}{d it:Addr}{es:Array DictEntry}{ep:Nat}{o:Obj}
structure Raw (h:Heap)(d:Addr)(es:Array DictEntry)(ep:Nat):Prop where
 ex:∃ o,h.get? d=some o∧o.ExactDict∧o.data = .dict es ep
theorem Raw.ty (r:Raw s.heap d es ep):s.TypeIs (.ref d) "dict":=let ⟨o,h,x,_⟩:=r.ex; ⟨o,h,x.1⟩
theorem Raw.keep {h h':Heap}(r:Raw h d es ep)(k:∀ o,h.get? d=some o->h'.get? d=some o):Raw h' d es ep:=let ⟨o,h1,x⟩:=r.ex; ⟨o,k o h1,x⟩
theorem pB {Q:Value->Shared->Prop}(r:Raw s.heap d es ep)(hd:(d == sysModules)=false)(h:Q (.ref s.heap.objs.size) { s with heap:=s.heap.push { cls:=.type "dict_items",data:=.fields #[.ref d] } }):
 wpAny (model prog w) A (call (.builtin "dict.items") [.ref d]) Q E s:=by
 refine wpAny_call_entry F.slot_dict_items r.ty F.entry_dict_items ?_ (F.args_dict_items_1 _)
 unfold Builtin.«dict.items» Builtin.Dict.noArgs; refine wpAny_bind (wpAny_bind (wpAny_notOrdered_dict r.ty (wpAny_pure ?_)))
 show wpAny _ _ (Builtin.Dict.showsAll d >>= _) _ _ s; unfold Builtin.Dict.showsAll; rw [if_neg (by rw [hd]; exact Bool.false_ne_true)]
 exact wpAny_bind (wpAny_pure (wpAny_bind (wpAny_newObj_type (wpAny_pure ⟨_,rfl,h⟩))))
theorem ow {v:Addr}{Q:Value->Shared->Prop}(hv:s.heap.IsItemsView v d)(r:Raw s.heap d es ep)
 (hQ:Q (.ref s.heap.objs.size) { s with heap:=s.heap.push { cls:=.type "dict_itemiterator",data:=.fields #[.none,.bool false,.ref d,.int 0 0,.int es.size 0,.int ep 0,.none,.none] } }):wpAny (model prog w) A (pyIter (.ref v)) Q E s:=by
 obtain ⟨ov,g1,g2,g3⟩:=id hv
 obtain ⟨o,h1,h2,h3⟩:=r.ex
 refine wpAny_pyIter_slot hv.typeIs F.slot_dict_items_iter (wpAny_call_entry F.slot_dict_items_iter hv.typeIs F.entry_dict_items_iter ?_ (F.args_dict_items_iter_1 _))
 unfold Builtin.«dict_items.__iter__» Builtin.Dict_items.dictOf; refine wpAny_bind (wpAny_pure (wpAny_bind (wpAny_bind (wpAny_field g1 g3 (x:=.ref d) rfl (wpAny_pure (wpAny_bind ?_))))))
 unfold Builtin.Dict_items.newIterator; refine wpAny_bind (wpAny_dictEntries h1 h3 (wpAny_bind (wpAny_dictEpoch h1 h3 ?_)))
 simp only [show Builtin.Dict_items.ownsTuple "dict_itemiterator"=true from by decide,if_true]
 refine wpAny_newObj_type (wpAny_pure ⟨_,rfl,"dict_itemiterator",_,⟨_,Heap.get?_push_size _ rfl,rfl⟩,F.slot_dict_itemiterator_next.lookup,?_⟩) (by simp only [sizeOk,Builtin.Dict_items.ownedTupleFields,List.size_toArray,List.length_append,List.length_cons,List.length_nil,sizeLine_eq]; omega)
 simpa [rawInt,Builtin.Dict_items.ownedTupleFields] using hQ
theorem oV {i:Nat}{ok ov:Value}{Q:Option Value->Shared->Prop}(hit:IsItemIter s.heap it d i es.size ep ok ov)(r:Raw s.heap d es ep)(hi:i < es.size)
 (hQ:∀ h',IsItemIterOut h' it d (i + 1) es.size ep es[i].key es[i].val s.heap.objs.size->h'.get? s.heap.objs.size=some { cls:=.type "tuple",data:=.seq #[es[i].key,es[i].val] }->h'.objs.size=s.heap.objs.size + 1 →
  (∀ b o,b≠it->s.heap.get? b=some o->h'.get? b=some o)->Q (some (.ref s.heap.objs.size)) { s with heap:=h' }):wpAny (model prog w) A (pyNext (.ref it)) Q E s:=by
 obtain ⟨hp,g,dr,tk,os⟩:=s
 obtain ⟨o,h1,h2,h3⟩:=r.ex
 have hT:Shared.TypeIs ⟨hp,g,dr,tk,os⟩ (.ref it) "dict_itemiterator":=⟨_,hit,rfl⟩
 unfold pyNext; refine wpAny_bind (wpAny_attempt (wpAny_callSpecial?_slot (name:=Str.ofString "__next__") hT F.slot_dict_itemiterator_next (wpAny_call_entry F.slot_dict_itemiterator_next hT F.entry_dict_itemiterator_next ?_ (F.args_dict_itemiterator_next_1 _))))
 refine wpAny_bind (wpAny_pure (wpAny_bind (wpAny_bind ?_)))
 first | refine wpAny_bind (wpAny_typeNameOfWhole_itemiter hT (wpAny_pure (wpAny_bind (wpAny_fieldsOf hit rfl ?_)))) | refine wpAny_bind (wpAny_typeNameOf_itemiter hT (wpAny_pure (wpAny_bind (wpAny_fieldsOf hit rfl ?_))))
 simp only [show Builtin.Dict_items.ownsTuple "dict_itemiterator"=true from by decide,if_true]
 show wpAny _ _ (if (Value.ref d == Value.none)=true then _ else _) _ _ _; rw [if_neg (show ¬ ((Value.ref d == Value.none)=true) from Bool.false_ne_true)]
 refine wpAny_bind (wpAny_pure (wpAny_bind (wpAny_dictEntries h1 h3 ?_))); rw [if_neg (by simp)]
 refine wpAny_bind (wpAny_pure (wpAny_bind (wpAny_dictEpoch h1 h3 ?_))); rw [if_neg (by simp)]; refine wpAny_pure ?_
 simp only [show ¬ ((i:Int) < 0) from by omega,if_false,Int.toNat_natCast,Array.getElem?_eq_getElem hi]
 refine wpAny_bind ?_
 first | refine wpAny_bind (wpAny_typeNameOfWhole_itemiter hT (wpAny_pure (wpAny_bind (wpAny_isOneOf_itemiter hT ?_)))) | refine wpAny_bind (wpAny_typeNameOf_itemiter hT (wpAny_pure (wpAny_bind (wpAny_isOneOf_itemiter hT ?_))))
 show wpAny _ _ (setField (.ref it) 3 (rawInt ((i:Int) + 1)) >>= _) _ _ ⟨hp,g,dr,tk,os⟩; refine wpAny_bind (wpAny_setField_rec hit (by simp) fun k1 e1 (b1:Heap.SameBut it hp k1)=>?_)
 have q1:IsItemIter k1 it d (i + 1) es.size ep ok ov:=by
  unfold IsItemIter; rw [show ((i + 1:Nat):Int)=(i:Int) + 1 by omega]; simpa [rawInt] using e1
 have t1:Shared.TypeIs ⟨k1,g,dr,tk,os⟩ (.ref it) "dict_itemiterator":=⟨_,q1,rfl⟩
 refine wpAny_bind (wpAny_holding (wpAny_bind (wpAny_isOneOf_itemiter t1 (wpAny_bind (wpAny_isOneOf_itemiter t1 ?_)))))
 show wpAny _ _ (Builtin.Dict_items.pairFromOwner (.ref it) 6 es[i].key es[i].val) _ _ ⟨k1,g,dr,tk,os⟩; unfold Builtin.Dict_items.pairFromOwner; refine wpAny_bind (wpAny_newTuple ?_)
 have q2:IsItemIter (k1.push { cls:=.type "tuple",data:=.seq #[es[i].key,es[i].val] }) it d (i + 1) es.size ep ok ov:=Heap.get?_push_of_some _ q1
 have z1:k1.objs.size=hp.objs.size:=b1.1
 have ne:hp.objs.size≠it:=Nat.ne_of_gt (Heap.lt_size hit)
 have w2:(k1.push { cls:=.type "tuple",data:=.seq #[es[i].key,es[i].val] }).get? hp.objs.size=some { cls:=.type "tuple",data:=.seq #[es[i].key,es[i].val] }:=by rw [← z1]; exact Heap.get?_push_size _ rfl
 have z2:(k1.push { cls:=.type "tuple",data:=.seq #[es[i].key,es[i].val] }).objs.size=hp.objs.size + 1:=by rw [Heap.size_push,z1]
 have p2:∀ b o,b≠it->hp.get? b=some o->(k1.push { cls:=.type "tuple",data:=.seq #[es[i].key,es[i].val] }).get? b=some o:=fun b o hb e=>Heap.get?_push_of_some _ (b1.extBut b o hb e)
 show wpAny _ _ (Builtin.Dict_items.ownedTupleIsFree (.ref it) >>= _) _ _ ⟨k1.push { cls:=.type "tuple",data:=.seq #[es[i].key,es[i].val] },g,dr,tk,os⟩; rw [z1]
 generalize k1.push { cls:=.type "tuple",data:=.seq #[es[i].key,es[i].val] }=k2 at q2 w2 z2 p2 ⊢
 unfold Builtin.Dict_items.ownedTupleIsFree; refine wpAny_bind (wpAny_bind (wpAny_field q2 rfl (x:=.none) rfl (wpAny_pure ?_))); simp only [if_true]
 refine wpAny_bind (wpAny_field q2 rfl (x:=ok) rfl (wpAny_bind (wpAny_field q2 rfl (x:=ov) rfl (wpAny_bind (wpAny_setField_rec q2 (by simp) fun k3 e3 (b3:Heap.SameBut it k2 k3)=>?_)))))
 have q3:IsItemIter k3 it d (i + 1) es.size ep es[i].key ov:=e3
 refine wpAny_bind (wpAny_setField_rec q3 (by simp) fun k4 e4 (b4:Heap.SameBut it k3 k4)=>?_)
 have q4:IsItemIter k4 it d (i + 1) es.size ep es[i].key es[i].val:=e4
 refine wpAny_bind (wpAny_setField_rec q4 (by simp) fun k5 e5 (b5:Heap.SameBut it k4 k5)=>?_)
 have q5:IsItemIterOut k5 it d (i + 1) es.size ep es[i].key es[i].val hp.objs.size:=e5
 refine wpAny_bind (wpAny_setField_rec q5 (by simp) fun k6 e6 (b6:Heap.SameBut it k5 k6)=>?_)
 have q6:IsItemIterOut k6 it d (i + 1) es.size ep es[i].key es[i].val hp.objs.size:=e6
 have go:∀ b o,b≠it->k2.get? b=some o->k6.get? b=some o:=fun b o hb e=>b6.extBut b o hb (b5.extBut b o hb (b4.extBut b o hb (b3.extBut b o hb e)))
 exact wpAny_bind (wpAny_letGo (wpAny_pure (wpAny_pure ⟨_,rfl,wpAny_pure (hQ k6 q6 (go _ _ ne w2) (by show k6.objs.size=hp.objs.size + 1; rw [b6.1,b5.1,b4.1,b3.1,z2]) fun b o hb e=>go b o hb (p2 b o hb e))⟩)))
theorem rC {i:Nat}{ok ov:Value}{Q:Option Value->Shared->Prop}(hh:A.handled=none)(hit:IsItemIter s.heap it d i es.size ep ok ov)(r:Raw s.heap d es ep)(hi:es.size≤i)
 (hQ:∀ h',Heap.ExtBut it s.heap h'->Q none { s with heap:=h' }):wpAny (model prog w) A (pyNext (.ref it)) Q E s:=by
 obtain ⟨o,h1,h2,h3⟩:=r.ex
 have hT:s.TypeIs (.ref it) "dict_itemiterator":=⟨_,hit,rfl⟩
 unfold pyNext; refine wpAny_bind (wpAny_attempt (wpAny_callSpecial?_slot (name:=Str.ofString "__next__") hT F.slot_dict_itemiterator_next (wpAny_call_entry F.slot_dict_itemiterator_next hT F.entry_dict_itemiterator_next ?_ (F.args_dict_itemiterator_next_1 _))))
 refine wpAny_bind (wpAny_pure (wpAny_bind (wpAny_bind ?_)))
 first | refine wpAny_bind (wpAny_typeNameOfWhole_itemiter hT (wpAny_pure (wpAny_bind (wpAny_fieldsOf hit rfl ?_)))) | refine wpAny_bind (wpAny_typeNameOf_itemiter hT (wpAny_pure (wpAny_bind (wpAny_fieldsOf hit rfl ?_))))
 simp only [show Builtin.Dict_items.ownsTuple "dict_itemiterator"=true from by decide,if_true]
 show wpAny _ _ (if (Value.ref d == Value.none)=true then _ else _) _ _ _; rw [if_neg (show ¬ ((Value.ref d == Value.none)=true) from Bool.false_ne_true)]
 refine wpAny_bind (wpAny_pure (wpAny_bind (wpAny_dictEntries h1 h3 ?_))); rw [if_neg (by simp)]
 refine wpAny_bind (wpAny_pure (wpAny_bind (wpAny_dictEpoch h1 h3 ?_))); rw [if_neg (by simp)]; refine wpAny_pure ?_
 simp only [show ¬ ((i:Int) < 0) from by omega,if_false,Int.toNat_natCast,Array.getElem?_eq_none hi]
 refine wpAny_bind ?_
 first | refine wpAny_bind (wpAny_typeNameOfWhole_itemiter hT (wpAny_pure ?_)) | refine wpAny_bind (wpAny_typeNameOf_itemiter hT (wpAny_pure ?_))
 show wpAny _ _ (setField (.ref it) 2 .none >>= _) _ _ s; refine wpAny_bind (wpAny_setField hit rfl (by simp) ?_)
 show wpAny _ _ (newExc (.type "StopIteration") [] >>= _) _ _ _; refine wpAny_bind ?_; simp only [newExc,newTuple]
 refine wpAny_bind (wpAny_newObj_type (wpAny_bind (m:=firstArgMember _ _) (wpAny_of_eq (a:=Value.none) (by first | rfl | (simp only [firstArgMember]; rfl)) (wpAny_newObj_type ?_ (by size_fits)))) (by size_fits))
 simp only [raiseNew]; refine wpAny_bind (wpAny_handled ?_); rw [show A.in1.handled=none from hh]
 refine wpAny_bind (wpAny_pure (wpAny_throw ?_))
 refine wpAny_bind (wpAny_isInstance (T:="StopIteration") (b:=true) ⟨_,Heap.get?_push_size _ rfl,rfl⟩ isSubtype_stop ?_); exact wpAny_pure (hQ _ (((Heap.SameBut.update ..).extBut.push _).push _))
theorem rq {Q:Value->Shared->Prop}(r:Raw s.heap d es ep)(hd:(d == sysModules)=false)
 (hQ:Q (.ref s.heap.objs.size) { s with heap:=s.heap.push { cls:=.type "dict_keyiterator",data:=.fields #[.ref d,.int 0 0,.int es.size 0,.int ep 0] } }):wpAny (model prog w) A (pyIter (.ref d)) Q E s:=by
 obtain ⟨o,h1,h2,h3⟩:=r.ex
 refine wpAny_pyIter_slot r.ty F.slot_dict_iter (wpAny_call_entry F.slot_dict_iter r.ty F.entry_dict_iter ?_ (F.args_dict_iter_1 _))
 unfold Builtin.«dict.__iter__» Builtin.Dict.dictSlotNone; refine wpAny_bind (wpAny_bind (wpAny_notOrdered_dict r.ty (?_:wpAny _ _ (pure (Value.ref d)) _ _ s)))
 refine wpAny_pure ?_; show wpAny _ _ (Builtin.Dict.showsAll d >>= _) _ _ s; unfold Builtin.Dict.showsAll; rw [if_neg (by rw [hd]; exact Bool.false_ne_true)]
 refine wpAny_bind (wpAny_pure (wpAny_bind (wpAny_dictEntries h1 h3 (wpAny_bind (wpAny_dictEpoch h1 h3 (wpAny_bind (wpAny_newObj_type (wpAny_pure ⟨_,rfl,"dict_keyiterator",_,⟨_,Heap.get?_push_size _ rfl,rfl⟩,F.slot_dict_keyiterator_next.lookup,?_⟩))))))))
 simpa [rawInt] using hQ
theorem tJ {i:Nat}{Q:Option Value->Shared->Prop}(hit:s.heap.IsKeyIter it d i es.size ep)(r:Raw s.heap d es ep)(hi:i < es.size)
 (hQ:∀ h',h'.IsKeyIter it d (i + 1) es.size ep->Heap.SameBut it s.heap h'->Q (some es[i].key) { s with heap:=h' }):wpAny (model prog w) A (pyNext (.ref it)) Q E s:=by
 obtain ⟨oi,g1,g2,g3⟩:=id hit
 obtain ⟨o,h1,h2,h3⟩:=r.ex
 have hT:=hit.typeIs
 unfold pyNext; refine wpAny_bind (wpAny_attempt (wpAny_callSpecial?_slot (name:=Str.ofString "__next__") hT F.slot_dict_keyiterator_next (wpAny_call_entry F.slot_dict_keyiterator_next hT F.entry_dict_keyiterator_next ?_ (F.args_dict_keyiterator_next_1 _))))
 refine wpAny_bind (wpAny_pure (wpAny_bind (wpAny_bind ?_)))
 first | refine wpAny_bind (wpAny_typeNameOfWhole_keyiter hT (wpAny_pure (wpAny_bind (wpAny_fieldsOf g1 g3 ?_)))) | refine wpAny_bind (wpAny_typeNameOf_keyiter hT (wpAny_pure (wpAny_bind (wpAny_fieldsOf g1 g3 ?_))))
 simp only [show Builtin.Dict_items.ownsTuple "dict_keyiterator"=false from by decide,Bool.false_eq_true,if_false]
 show wpAny _ _ (if (Value.ref d == Value.none)=true then _ else _) _ _ _; rw [if_neg (show ¬ ((Value.ref d == Value.none)=true) from Bool.false_ne_true)]
 refine wpAny_bind (wpAny_pure (wpAny_bind (wpAny_dictEntries h1 h3 ?_))); rw [if_neg (by simp)]
 refine wpAny_bind (wpAny_pure (wpAny_bind (wpAny_dictEpoch h1 h3 ?_))); rw [if_neg (by simp)]; refine wpAny_pure ?_
 simp only [show ¬ ((i:Int) < 0) from by omega,if_false,Int.toNat_natCast,Array.getElem?_eq_getElem hi]
 refine wpAny_bind ?_
 first | refine wpAny_bind (wpAny_typeNameOfWhole_keyiter hT (wpAny_pure (wpAny_bind (wpAny_isOneOf_keyiter hT ?_)))) | refine wpAny_bind (wpAny_typeNameOf_keyiter hT (wpAny_pure (wpAny_bind (wpAny_isOneOf_keyiter hT ?_))))
 show wpAny _ _ (setField (.ref it) 1 (rawInt ((i:Int) + 1)) >>= _) _ _ s; refine wpAny_bind (wpAny_setField g1 g3 (by simp) ?_)
 have q1:(s.heap.update it (Obj.mapFields (·.setIfInBounds 1 (rawInt ((i:Int) + 1))))).IsKeyIter it d (i + 1) es.size ep:=⟨_,Heap.get?_update_self _ g1 (Obj.isFreed_of_fields (Obj.data_mapFields g3 _)),(Obj.cls_mapFields ..).trans g2,by rw [Obj.data_mapFields g3]; simp [rawInt]⟩
 refine wpAny_bind (wpAny_holding (wpAny_bind (wpAny_isOneOf_keyiter (s:={ s with heap:=s.heap.update it (Obj.mapFields (·.setIfInBounds 1 (rawInt ((i:Int) + 1)))) }) q1.typeIs (?_:wpAny _ _ (pure es[i].key) _ _ _))))
 exact wpAny_pure (wpAny_pure ⟨_,rfl,wpAny_pure (hQ _ q1 (Heap.SameBut.update ..))⟩)
theorem vT {i:Nat}{Q:Option Value->Shared->Prop}(hh:A.handled=none)(hit:s.heap.IsKeyIter it d i es.size ep)(r:Raw s.heap d es ep)(hi:es.size≤i)
 (hQ:∀ h',Heap.ExtBut it s.heap h'->Q none { s with heap:=h' }):wpAny (model prog w) A (pyNext (.ref it)) Q E s:=by
 obtain ⟨oi,g1,g2,g3⟩:=id hit
 obtain ⟨o,h1,h2,h3⟩:=r.ex
 have hT:=hit.typeIs
 unfold pyNext; refine wpAny_bind (wpAny_attempt (wpAny_callSpecial?_slot (name:=Str.ofString "__next__") hT F.slot_dict_keyiterator_next (wpAny_call_entry F.slot_dict_keyiterator_next hT F.entry_dict_keyiterator_next ?_ (F.args_dict_keyiterator_next_1 _))))
 refine wpAny_bind (wpAny_pure (wpAny_bind (wpAny_bind ?_)))
 first | refine wpAny_bind (wpAny_typeNameOfWhole_keyiter hT (wpAny_pure (wpAny_bind (wpAny_fieldsOf g1 g3 ?_)))) | refine wpAny_bind (wpAny_typeNameOf_keyiter hT (wpAny_pure (wpAny_bind (wpAny_fieldsOf g1 g3 ?_))))
 simp only [show Builtin.Dict_items.ownsTuple "dict_keyiterator"=false from by decide,Bool.false_eq_true,if_false]
 show wpAny _ _ (if (Value.ref d == Value.none)=true then _ else _) _ _ _; rw [if_neg (show ¬ ((Value.ref d == Value.none)=true) from Bool.false_ne_true)]
 refine wpAny_bind (wpAny_pure (wpAny_bind (wpAny_dictEntries h1 h3 ?_))); rw [if_neg (by simp)]
 refine wpAny_bind (wpAny_pure (wpAny_bind (wpAny_dictEpoch h1 h3 ?_))); rw [if_neg (by simp)]; refine wpAny_pure ?_
 simp only [show ¬ ((i:Int) < 0) from by omega,if_false,Int.toNat_natCast,Array.getElem?_eq_none hi]
 refine wpAny_bind ?_
 first | refine wpAny_bind (wpAny_typeNameOfWhole_keyiter hT (wpAny_pure ?_)) | refine wpAny_bind (wpAny_typeNameOf_keyiter hT (wpAny_pure ?_))
 show wpAny _ _ (setField (.ref it) 0 .none >>= _) _ _ s; refine wpAny_bind (wpAny_setField g1 g3 (by simp) ?_)
 show wpAny _ _ (newExc (.type "StopIteration") [] >>= _) _ _ _; refine wpAny_bind ?_; simp only [newExc,newTuple]
 refine wpAny_bind (wpAny_newObj_type (wpAny_bind (m:=firstArgMember _ _) (wpAny_of_eq (a:=Value.none) (by first | rfl | (simp only [firstArgMember]; rfl)) (wpAny_newObj_type ?_ (by size_fits)))) (by size_fits))
 simp only [raiseNew]; refine wpAny_bind (wpAny_handled ?_); rw [show A.in1.handled=none from hh]
 refine wpAny_bind (wpAny_pure (wpAny_throw ?_))
 refine wpAny_bind (wpAny_isInstance (T:="StopIteration") (b:=true) ⟨_,Heap.get?_push_size _ rfl,rfl⟩ isSubtype_stop ?_); exact wpAny_pure (hQ _ (((Heap.SameBut.update ..).extBut.push _).push _))
end
end Dit
namespace L2
open PySem PySem.Spec PyProof.Rows PySem.W
abbrev lL (o:Obj)(kvs:List (List Key × V)):HO:=.frz o (.dT kvs)
def AY (d:Addr)(o:Obj)(kvs:List (List Key × V)):It :=
 ⟨fun i H=>i < kvs.length∧H d=some (lL o kvs),fun i H x H'=>∃ p b k v,kvs[i]?=some (k,v)∧H p=none∧H b=some (.tup (k.map kV))∧x = .ref p∧H'=upd H p (.tup [.ref b,v]),fun i H=>kvs.length≤i∧H d=some (lL o kvs)⟩
def Bl (d:Addr)(o:Obj)(kvs:List (List Key × V)):It :=
 ⟨fun i H=>i < kvs.length∧H d=some (lL o kvs),fun i H x H'=>∃ b k v,kvs[i]?=some (k,v)∧H b=some (.tup (k.map kV))∧x = .ref b∧H'=H,fun i H=>kvs.length≤i∧H d=some (lL o kvs)⟩
theorem ja {α β:Type}{R:α->β->Prop}:∀ {l:List α}{m:List β}{i:Nat}{a:α},Paired R l m->l[i]?=some a->∃ b,m[i]?=some b∧R a b
 | _,_,_,_,.nil,e=>by simp at e
 | _,_,0,_,.cons r _,e=>by simp at e; subst e; exact ⟨_,rfl,r⟩
 | _,_,i + 1,a,.cons _ t,e=>by
   obtain ⟨b,h1,h2⟩:=ja (i:=i) (a:=a) t (by simpa using e)
   exact ⟨b,by simpa using h1,h2⟩
section
variable {X:Cx}{pins:List (Addr × Obj)}{σ:St}{H:Hp}{s:Shared}{d:Addr}{o:Obj}{kvs:List (List Key × V)}
theorem gc (I:Inv X pins σ H s)(e:H d=some (lL o kvs)):∃ es ep,o.data = .dict es ep∧Dit.Raw s.heap d es ep∧es.size=kvs.length∧(d == sysModules)=false ∧
 ∀ (i:Nat)(hi:i < es.size) k v,kvs[i]?=some (k,v)->∃ b,es[i].key = .ref b∧H b=some (.tup (k.map kV))∧aC v es[i].val:=by
 obtain ⟨h0,z,y,xs,r,o',es,ep,h1,h2,h3,h4,h5⟩:=(show a8 X.prog X.w H s.heap d (lL o kvs) from I.hok d _ e)
 rw [h0] at h1
 cases h1
 have hl:es.size=kvs.length:=by
  rw [← Array.length_toList,h4,List.length_map]
  exact (Paired.length r).symm
 refine ⟨es,ep,h3,⟨_,h0,h2,h3⟩,hl,y,fun i hi k v hk=>?_⟩
 obtain ⟨q,hq,e1,e2,e3⟩:=ja r hk
 have z1:es.toList[i]?=some (entryOfKey (tupleKind (bq X.prog X.w)) q):=by rw [h4,List.getElem?_map,hq]; rfl
 have z2:es[i]=entryOfKey (tupleKind (bq X.prog X.w)) q:=by
  have z3:es.toList[i]?=some es[i]:=by simp [hi]
  rw [z3] at z1
  exact Option.some.inj z1
 rw [z2]
 exact ⟨q.2.1,rfl,e2,e3⟩
theorem Inv.freeze (I:Inv X pins σ H s)(e:H d=some (.dT kvs)):∃ o,s.heap.get? d=some o∧Inv X pins σ (upd H d (lL o kvs)) s:=by
 obtain ⟨z,y,xs,r,o,es,ep,h1,h2⟩:=(show a8 X.prog X.w H s.heap d (.dT kvs) from I.hok d _ e)
 refine ⟨o,h1,I.write (t':=s.toks) (h':=s.heap) (x:=d) (e:=d) (o:=lL o kvs) (by rw [e]; exact True.intro) (.inl rfl) (fun _ _ _ q=>q) ⟨o,h1⟩ ⟨h1,z,y,xs,?_,o,es,ep,h1,h2⟩⟩
 exact Paired.mapP r fun p q w=>⟨w.1,by rw [ar (mx w.2.1 e (by intro z; cases z))]; exact w.2.1,w.2.2⟩
end
theorem pK {P:Program}{w:World}{K:Frag}{elts:List Expr}{x1:Nat}{tp:Pos}(d it:Addr)(o:Obj)(kvs:List (List Key × V))(es:Array DictEntry)(ep:Nat)(ho:o.data = .dict es ep):Turn P w K (.Tuple elts x1 tp) (AY d o kvs) [it] it (fun i h=>∃ ok ov,IsItemIter h it d i es.size ep ok ov) where
 mem:=by simp
 obj:=fun i h st b hb=>by
  have e:b=it:=by simpa using hb
  subst e
  obtain ⟨ok,ov,e⟩:=st
  exact ⟨_,e,fun v z=>by cases z⟩
 keep:=fun i h h' st k=>let ⟨ok,ov,e⟩:=st; ⟨ok,ov,k it (by simp) _ e⟩
 item:=by
  intro X hP hw hK hc i pins s σ H E I hf st hg
  subst hP hw hK
  obtain ⟨hlt,hd⟩:=hg
  obtain ⟨ok,ov,hit⟩:=st
  obtain ⟨es',ep',ho',raw,hl,hm,hkv⟩:=gc I hd
  rw [ho] at ho'
  cases ho'
  obtain ⟨f0,f1,f2,f3,f4,f5⟩:=hf it (by simp)
  have hi:i < es.size:=by omega
  refine Dit.oV hit raw hi fun h' q1 q2 q3 q4=>?_
  obtain ⟨⟨k,v⟩,hk⟩:∃ kv,kvs[i]?=some kv:=⟨kvs[i],by simp [hlt]⟩
  obtain ⟨b,eb,hb,rv⟩:=hkv i hi k v hk
  refine ⟨_,rfl,wpAny_letOwnedTupleGo_items (s:={ s with heap:=h' }) q1 fun h2 q5 q6=>?_⟩
  have nit:s.heap.objs.size≠it:=Nat.ne_of_gt (Heap.lt_size hit)
  have I1:Inv X pins σ H { s with heap:=h2 }:=I.turned (t':=s.toks) (fun b o hb e=>(q6.2 b hb).trans (q4 b o hb e)) f0 f1 f3 f4 f5
  have tup:h2.get? s.heap.objs.size=some { cls:=.type "tuple",data:=.seq #[es[i].key,es[i].val] }:=(q6.2 _ nit).trans q2
  have fr:H s.heap.objs.size=none:=I.hok.fresh (Nat.le_refl _)
  have I2:Inv X pins σ (upd H s.heap.objs.size (.tup [.ref b,v])) { s with heap:=h2 }:=by
   refine ⟨I1.ok,I1.os,I1.bare,?_,I1.loc,I1.cell,?_,fun x c e=>?_,fun p hp=>?_,dn I1.hok fr ⟨by show 2≤sizeLine; decide,[.ref b,es[i].val],.cons rfl (.cons rv .nil),?_⟩,I1.len⟩
   ·have u:=I1.base
    refine ⟨u.keep,u.slot,fun b' o' e n hx=>?_,u.there,fun b' xs e=>?_,fun b' o' u' e=>?_,fun b' ps e=>?_⟩
    ·have ne:b'≠s.heap.objs.size:=Nat.ne_of_lt (Nat.lt_of_lt_of_le (Heap.lt_size e) I.sz)
     rw [ar ne]; exact u.free b' o' e n hx
    ·rw [ar (au (u.tups b' xs e) fr)]; exact u.tups b' xs e
    ·rw [ar (au (u.frzs b' o' u' e) fr)]; exact u.frzs b' o' u' e
    ·obtain ⟨m,q⟩:=u.tbls b' ps e
     exact ⟨m,by rw [ar (au q fr)]; exact q⟩
   ·rw [ar (Nat.ne_of_lt I.lt)]; exact I1.free
   ·obtain ⟨v',q⟩:=I.cell x c e
    rw [ar (Nat.ne_of_lt q.lt)]; exact I1.freeC x c e
   ·obtain ⟨e,n,r⟩:=I1.pin p hp
    have lt:p.1 < s.heap.objs.size:=Heap.lt_size (I.pin p hp).1
    exact ⟨e,by rw [ar (Nat.ne_of_lt lt)]; exact n,r⟩
   ·exact ⟨_,tup,rfl,0,by rw [← eb]⟩
  refine ⟨.ref s.heap.objs.size,_,I2,rfl,⟨s.heap.objs.size,b,k,v,hk,fr,hb,rfl,rfl⟩,⟨_,_,q5⟩,fun b' hb'=>?_⟩
  have e:b'=it:=by simpa using hb'
  subst e
  rw [ar (Ne.symm nit)]
  exact f0
 done:=by
  intro X hP hw hK hc i pins s σ H E I hf st hg
  subst hP hw hK
  obtain ⟨hlt,hd⟩:=hg
  obtain ⟨ok,ov,hit⟩:=st
  obtain ⟨es',ep',ho',raw,hl,hm,hkv⟩:=gc I hd
  rw [ho] at ho'
  cases ho'
  obtain ⟨f0,f1,f2,f3,f4,f5⟩:=hf it (by simp)
  exact Dit.rC (I.ok.hd hc) hit raw (by omega) fun h' eb=>⟨rfl,I.turned (t':=s.toks) (fun b o hb e=>eb b o hb e) f0 f1 f3 f4 f5⟩
 self:=fun A i s Q E st h=>by
  obtain ⟨ok,ov,hit⟩:=st
  exact kcp_self hit h
theorem sM {P:Program}{w:World}{K:Frag}{tg:Expr}(d it:Addr)(o:Obj)(kvs:List (List Key × V))(es:Array DictEntry)(ep:Nat)(ho:o.data = .dict es ep):Turn P w K tg (Bl d o kvs) [it] it (fun i h=>h.IsKeyIter it d i es.size ep) where
 mem:=by simp
 obj:=fun i h st b hb=>by
  have e:b=it:=by simpa using hb
  subst e
  obtain ⟨o,e,c,d⟩:=st
  exact ⟨o,e,fun v z=>by rw [d] at z; cases z⟩
 keep:=fun i h h' st k=>st.at fun o e=>k it (by simp) o e
 item:=by
  intro X hP hw hK hc i pins s σ H E I hf st hg
  subst hP hw hK
  obtain ⟨hlt,hd⟩:=hg
  obtain ⟨es',ep',ho',raw,hl,hm,hkv⟩:=gc I hd
  rw [ho] at ho'
  cases ho'
  obtain ⟨f0,f1,f2,f3,f4,f5⟩:=hf it (by simp)
  have hi:i < es.size:=by omega
  refine Dit.tJ st raw hi fun h' q1 q2=>?_
  obtain ⟨⟨k,v⟩,hk⟩:∃ kv,kvs[i]?=some kv:=⟨kvs[i],by simp [hlt]⟩
  obtain ⟨b,eb,hb,rv⟩:=hkv i hi k v hk
  have I1:Inv X pins σ H { s with heap:=h' }:=I.turned (t':=s.toks) (fun b o hb e=>(q2.2 b hb).trans e) f0 f1 f3 f4 f5
  obtain ⟨oi,e,c,dd⟩:=id q1
  exact ⟨_,rfl,qA (s:={ s with heap:=h' }) e c dd (by decide) ⟨.ref b,H,I1,eb,⟨b,k,v,hk,hb,rfl,rfl⟩,q1,fun b hb=>(hf b hb).1⟩⟩
 done:=by
  intro X hP hw hK hc i pins s σ H E I hf st hg
  subst hP hw hK
  obtain ⟨hlt,hd⟩:=hg
  obtain ⟨es',ep',ho',raw,hl,hm,hkv⟩:=gc I hd
  rw [ho] at ho'
  cases ho'
  obtain ⟨f0,f1,f2,f3,f4,f5⟩:=hf it (by simp)
  exact Dit.vT (I.ok.hd hc) st raw (by omega) fun h' eb=>⟨rfl,I.turned (t':=s.toks) (fun b o hb e=>eb b o hb e) f0 f1 f3 f4 f5⟩
 self:=fun _ _ _ _ _ st h=>wpAny_pyIter_keyiter st h
def Bc (H1:Hp)(d:Addr)(kvs:List (List Key × V))(R:Obj->Hp->Prop):Prop:=(∃ o,H1 d=some (lL o kvs)∧R o H1)∨(H1 d=some (.dT kvs)∧∀ o,R o (upd H1 d (lL o kvs)))
def yu (td:TE):TI:=fun σ H R=>td σ H fun x H1=>∃ d kvs,x = .ref d∧Bc H1 d kvs fun o H2=>R (AY d o kvs) H2
def Ao (td:TE):TI:=fun σ H R=>td σ H fun x H1=>∃ d kvs,x = .ref d∧Bc H1 d kvs fun o H2=>R (Bl d o kvs) H2
section
variable {X:Cx}{pins:List (Addr × Obj)}{σ:St}{H:Hp}{s:Shared}
theorem t7 {d:Addr}{kvs:List (List Key × V)}{R:Obj->Hp->Prop}(I:Inv X pins σ H s)(h:Bc H d kvs R):∃ o H2,Inv X pins σ H2 s∧H2 d=some (lL o kvs)∧R o H2:=by
 rcases h with ⟨o,e,r⟩ | ⟨e,r⟩
 ·exact ⟨o,H,I,e,r⟩
 ·obtain ⟨o,_,I2⟩:=I.freeze e
  exact ⟨o,_,I2,ag,r o⟩
theorem vz {oe:Expr}{td:TE}{elts:List Expr}{x1:Nat}{tp apos cpos:Pos}(ho:PE X oe td)(hbase:attributeBase oe "items" X.env (eval oe X.env)=eval oe X.env:=by rfl)(hline:(apos.endLine == cpos.line)=true:=by rfl):
 PI X (.Tuple elts x1 tp) (.Call (.Attribute oe "items" apos) [] [] cpos) (yu td):=by
 intro pins s σ H R I h
 refine wpAny_Call_method0_late hbase hline (br (ho pins s σ H _ I h) fun v s1 ⟨x,H1,I1,r1,d,kvs,ex,fz⟩=>?_)
 subst ex
 cases (show v=Value.ref d from r1)
 obtain ⟨o,H2,I2,hd,rr⟩:=t7 I1 fz
 obtain ⟨es,ep,hod,raw,hl,hm,_⟩:=gc I2 hd
 refine ⟨"dict","dict.items",PySem.F.plainAttrs_dict,PySem.F.slot_dict_items,PySem.F.type_dict_items,raw.ty,fun a e=>?_,Calls.callWith_builtin rfl (PySem.evalArgs_none (Dit.pB raw hm ?_))⟩
 ·cases e
  obtain ⟨o',h1,h2,_⟩:=raw.ex
  exact ⟨o',h1,h2.2.1⟩
 ·have I3:Inv X pins σ H2 { s1 with heap:=s1.heap.push { cls:=.type "dict_items",data:=.fields #[.ref d] } }:=I2.kept (t':=s1.toks) fun b ob q=>Heap.get?_push_of_some _ q
  refine Dit.ow (s:={ s1 with heap:=s1.heap.push { cls:=.type "dict_items",data:=.fields #[.ref d] } }) ⟨_,Heap.get?_push_size _ rfl,rfl,rfl⟩ (raw.keep fun o e=>Heap.get?_push_of_some _ e) ?_
  generalize s1.heap.push { cls:=.type "dict_items",data:=.fields #[.ref d] }=h2 at I3 ⊢
  refine ⟨h2.objs.size,[h2.objs.size],_,AY d o kvs,H2,rfl,I3.kept (t':=s1.toks) fun b ob q=>Heap.get?_push_of_some _ q,pK d _ o kvs es ep hod,⟨_,_,Heap.get?_push_size _ rfl⟩,fun b hb=>?_,rr⟩
  have e:b=h2.objs.size:=by simpa using hb
  subst e
  exact I3.fpOk (Nat.le_refl _) (I3.hok.fresh (Nat.le_refl _))
theorem xD {tg oe:Expr}{td:TE}(ho:PE X oe td):PI X tg oe (Ao td):=by
 intro pins s σ H R I h
 refine br (ho pins s σ H _ I h) fun v s1 ⟨x,H1,I1,r1,d,kvs,ex,fz⟩=>?_
 subst ex
 cases (show v=Value.ref d from r1)
 obtain ⟨o,H2,I2,hd,rr⟩:=t7 I1 fz
 obtain ⟨es,ep,hod,raw,hl,hm,_⟩:=gc I2 hd
 refine Dit.rq raw hm ⟨s1.heap.objs.size,[s1.heap.objs.size],_,Bl d o kvs,H2,rfl,I2.kept (t':=s1.toks) fun b ob q=>Heap.get?_push_of_some _ q,sM d _ o kvs es ep hod,⟨_,Heap.get?_push_size _ rfl,rfl,rfl⟩,fun b hb=>?_,rr⟩
 have e:b=s1.heap.objs.size:=by simpa using hb
 subst e
 exact I2.fpOk (Nat.le_refl _) (I2.hok.fresh (Nat.le_refl _))
theorem Inv.tupAt {s2:Shared}{T:Addr}{xs:List V}{its:List Value}(I:Inv X pins σ H s)(I1:Inv X pins σ H s2)(hT:s.heap.objs.size≤T)(e:s2.heap.get? T=some { cls:=.type "tuple",data:=.seq its.toArray })(r:aI xs its)(hz:xs.length≤sizeLine):
 Inv X pins σ (upd H T (.tup xs)) s2:=by
 have fr:H T=none:=I.hok.fresh hT
 refine ⟨I1.ok,I1.os,I1.bare,?_,I1.loc,I1.cell,?_,fun x c e=>?_,fun p hp=>?_,dn I1.hok fr ⟨hz,its,r,⟨_,e,rfl,0,rfl⟩⟩,I1.len⟩
 ·have u:=I1.base
  refine ⟨u.keep,u.slot,fun b' o' e n hx=>?_,u.there,fun b' xs e=>?_,fun b' o' u' e=>?_,fun b' ps e=>?_⟩
  ·have ne:b'≠T:=Nat.ne_of_lt (Nat.lt_of_lt_of_le (Heap.lt_size e) (Nat.le_trans I.sz hT))
   rw [ar ne]; exact u.free b' o' e n hx
  ·rw [ar (au (u.tups b' xs e) fr)]; exact u.tups b' xs e
  ·rw [ar (au (u.frzs b' o' u' e) fr)]; exact u.frzs b' o' u' e
  ·obtain ⟨m,q⟩:=u.tbls b' ps e
   exact ⟨m,by rw [ar (au q fr)]; exact q⟩
 ·rw [ar (Nat.ne_of_lt (Nat.lt_of_lt_of_le I.lt hT))]; exact I1.free
 ·obtain ⟨v',q⟩:=I.cell x c e
  rw [ar (Nat.ne_of_lt (Nat.lt_of_lt_of_le q.lt hT))]; exact I1.freeC x c e
 ·obtain ⟨e,n,r⟩:=I1.pin p hp
  have lt:p.1 < s.heap.objs.size:=Heap.lt_size (I.pin p hp).1
  exact ⟨e,by rw [ar (Nat.ne_of_lt (Nat.lt_of_lt_of_le lt hT))]; exact n,r⟩
theorem Inv.turnedL {h':Heap}{t':Nat}{ch:List Addr}(I:Inv X pins σ H s)(k:∀ b o,b ∉ ch->s.heap.get? b=some o->h'.get? b=some o)(hf:∀ b∈ch,cu X pins H b):Inv X pins σ H { s with heap:=h',toks:=t' }:=by
 have nit:∀ b u,H b=some u->b ∉ ch:=fun b u e z=>by rw [(hf b z).1] at e; cases e
 refine I.step (g':=s.gens) (d':=s.drawn) (ch:=ch) (fun b hb=>?_) (fun b o _ _ hc e _=>k b o hc e) (fun b o _ _ hc e _=>⟨o.slots,k b o hc e⟩) (fun _ _ _ _ n=>n)
  (fun b o hc e=>⟨o,k b o hc e⟩) (fun _ _ e=>e) (fun _ _ _ e=>e) (fun b ps e=>⟨#[],by rw [e]; simp⟩) (fun m hm=>?_) (fun b u e=>?_) I.bare
 ·obtain ⟨f0,f1,f2,f3,f4,f5⟩:=hf b hb
  exact ⟨f3,f1,f4,f5⟩
 ·obtain ⟨o,es,ep,ho,r⟩:=hm
  exact ⟨o,es,ep,k _ o (fun z=>(hf _ z).2.1 rfl) ho,r⟩
 ·refine (I.hok b u e).stay (fun c v hc q=>k c v ?_ q) (fun _ q=>q) fun _ _ q=>q
  rcases hc with z | z
  ·rw [z]; exact nit b u e
  ·exact nit c _ z
end
def A1 (K:Frag)(a:Addr):It :=
 ⟨fun i H=>∃ xs x,a7 K H a xs∧xs[i]?=some x,fun i H x H'=>∃ T y,(∀ xs,a7 K H a xs->xs[i]?=some y)∧H T=none∧x = .ref T∧H'=upd H T (.tup [.int i,y]),fun i H=>∃ xs,a7 K H a xs∧xs.length≤i⟩
theorem rK {P:Program}{w:World}{K:Frag}{elts:List Expr}{x1:Nat}{tp:Pos}(a e it:Addr)(hne:e≠it):Turn P w K (.Tuple elts x1 tp) (A1 K a) [e,it] e (fun i h=>∃ old,IsEnum h e it i old∧h.IsListIter it a i) where
 mem:=by simp
 obj:=fun i h st b hb=>by
  obtain ⟨old,h1,o,h2,_,h3⟩:=st
  rcases (by simpa using hb:b=e∨b=it) with z | z
  ·subst z
   exact ⟨_,h1,fun v z=>by cases z⟩
  ·subst z
   exact ⟨o,h2,fun v z=>by rw [h3] at z; cases z⟩
 keep:=fun i h h' st k=>let ⟨old,h1,h2⟩:=st; ⟨old,k e (by simp) _ h1,h2.at fun o q=>k it (by simp) o q⟩
 item:=by
  intro X hP hw hK hc i pins s σ H E I hf st hg
  subst hP hw hK
  obtain ⟨xs,x,hq,hx⟩:=hg
  obtain ⟨its,rv,p,hz⟩:=I.list hq
  obtain ⟨u,hu,ru⟩:=rv.get hx
  obtain ⟨old,he,hit⟩:=st
  refine wpAny_pyNext_enum_item he hit p.isList (x:=u) (by simpa using hu) hne fun h' q1 q2 q3 q4 q5=>?_
  refine ⟨_,rfl,wpAny_letOwnedTupleGo_enum (s:={ s with heap:=h',toks:=s.toks + 1 }) q1 fun h2 q6 q7=>?_⟩
  have nse:s.heap.objs.size≠e:=Nat.ne_of_gt (Heap.lt_size he)
  have I1:Inv X pins σ H { s with heap:=h2,toks:=s.toks + 1 }:=I.turnedL (t':=s.toks + 1) (ch:=[e,it]) (fun b o hb z=>by
   have hb':b≠e∧b≠it:=by simpa using hb
   exact (q7.2 b hb'.1).trans (q5 b o hb'.1 hb'.2 z)) hf
  have tup:h2.get? s.heap.objs.size=some { cls:=.type "tuple",data:=.seq #[.int i s.toks,u] }:=(q7.2 _ nse).trans q3
  have fr:H s.heap.objs.size=none:=I.hok.fresh (Nat.le_refl _)
  have I2:=I.tupAt (xs:=[.int i,x]) (its:=[.int i s.toks,u]) I1 (Nat.le_refl _) tup (.cons ⟨_,rfl⟩ (.cons ru .nil)) f9
  refine ⟨.ref s.heap.objs.size,_,I2,rfl,⟨s.heap.objs.size,x,fun ys hy=>by rw [I.list_inj hy hq]; exact hx,fr,rfl,rfl⟩,⟨u,q6,q2.at fun o q=>(q7.2 _ (Ne.symm hne)).trans q⟩,fun b hb=>?_⟩
  have nb:b≠s.heap.objs.size:=by
   rcases (by simpa using hb:b=e∨b=it) with z | z
   ·subst z; exact Ne.symm nse
   ·subst z
    obtain ⟨o,q,_⟩:=hit
    exact Nat.ne_of_lt (Heap.lt_size q)
  rw [ar nb]
  exact (hf b hb).1
 done:=by
  intro X hP hw hK hc i pins s σ H E I hf st hg
  subst hP hw hK
  obtain ⟨xs,hq,hx⟩:=hg
  obtain ⟨its,rv,p,hz⟩:=I.list hq
  have hl:=rv.length
  obtain ⟨old,he,hit⟩:=st
  obtain ⟨f0,f1,f2,f3,f4,f5⟩:=hf it (by simp)
  exact wpAny_pyNext_enum_end (I.ok.hd hc) he hit p.isList (by simp; omega) fun h' eb=>⟨rfl,I.turned (t':=s.toks) (fun b o hb e=>eb b o hb e) f0 f1 f3 f4 f5⟩
 self:=fun _ _ _ _ _ st h=>let ⟨old,h1,_⟩:=st; wpAny_pyIter_enum h1 h
def Ac (K:Frag)(tl:TE):TI:=fun σ H R=>cG tl tNil σ H fun vs H1=>∃ a xs,vs=[.ref a]∧a7 K H1 a xs∧R (A1 K a) H1
theorem wY {X:Cx}{l:Expr}{tl:TE}{elts:List Expr}{x1:Nat}{tp p pos:Pos}(hl:PE X l tl)(hg:Gl X "enumerate")(hm:X.mg "enumerate"=none)(hs:eT l=false:=by rfl):
 PI X (.Tuple elts x1 tp) (.Call (.Name "enumerate" p) [l] [] pos) (Ac X.K tl):=by
 intro pins s σ H R I h
 refine wpAny_Call_Name_kw (dH I hg hm (by rfl) ?_ (by decide) (by decide))
 refine PyProof.Rows.callWith_type1 (br (aj hl af hs pos pins s σ H _ I h) fun us s1 ⟨vs,H1,I1,r1,a,xs,hv,hq,rr⟩=>?_) (bu hs) rfl
 subst hv
 obtain ⟨u,rfl,ru⟩:=c0 r1
 cases (show u=Value.ref a from ru)
 obtain ⟨its,rv,pl,hz⟩:=I1.list hq
 refine call_enumerate_list pl.isList fun h' q1 q2 q3 q4=>?_
 have I2:Inv X pins σ H1 { s1 with heap:=h' }:=I1.kept (t':=s1.toks) q4
 refine wpAny_pyIter_enum (s:={ s1 with heap:=h' }) q1 ?_
 refine ⟨s1.heap.objs.size + 1,[s1.heap.objs.size + 1,s1.heap.objs.size],_,A1 X.K a,H1,rfl,I2,rK a _ _ (Nat.succ_ne_self _),⟨_,q1,q2⟩,fun b hb=>?_,rr⟩
 have hb':s1.heap.objs.size≤b:=by
  rcases (by simpa using hb:b=s1.heap.objs.size + 1∨b=s1.heap.objs.size) with z | z
  ·rw [z]; exact Nat.le_succ _
  ·rw [z]; exact Nat.le_refl _
 exact I1.fpOk hb' (I1.hok.fresh hb')
end L2
namespace Zp
open PySem PyProof.Rows
section
variable {prog:Program}{w:World}{A:Around}{E:Value->Shared->Prop}{s:Shared}
theorem iy {it t:Addr}{i:Nat}{items:Array Value}{x:Value}{Q:Value->Shared->Prop}(hit:s.heap.IsTupleIter it t i)(ht:s.heap.IsTuple t items)(hx:items[i]?=some x)
 (hQ:∀ h',h'.IsTupleIter it t (i + 1)->Heap.SameBut it s.heap h'->Q x { s with heap:=h' }):wpAny (model prog w) A (Builtin.SmallTypes.nextOf (.ref it)) Q E s:=by
 obtain ⟨o,ho,hc,hd⟩:=id hit
 obtain ⟨ol,hol,_,nl,hdl⟩:=ht
 unfold Builtin.SmallTypes.nextOf
 refine wpAny_bind (wpAny_callSpecial?_slot (name:=Str.ofString "__next__") hit.typeIs F.slot_tuple_iterator_next (wpAny_call_entry F.slot_tuple_iterator_next hit.typeIs F.entry_tuple_iterator_next ?_ (F.args_tuple_iterator_next_1 _)))
 show wpAny _ _ (field (.ref it) 0 >>= _) _ _ s
 refine wpAny_bind (wpAny_field ho hd (x:=.ref t) rfl ?_)
 show wpAny _ _ (if (Value.ref t == Value.none)=true then _ else _) _ _ s
 rw [if_neg (show ¬ ((Value.ref t == Value.none)=true) from Bool.false_ne_true)]
 show wpAny _ _ (field (.ref it) 1 >>= _) _ _ s
 refine wpAny_bind (wpAny_field ho hd (x:=.int i 0) rfl ?_)
 show wpAny _ _ (seqItems? (.ref t) >>= _) _ _ s
 refine wpAny_bind (wpAny_seqItems hol hdl ?_)
 simp only [Int.toNat_natCast,hx]
 refine wpAny_bind (wpAny_setField ho hd (by simp) (wpAny_pure ⟨x,rfl,wpAny_pure (hQ _ ?_ (Heap.SameBut.update ..))⟩))
 exact ⟨_,Heap.get?_update_self _ ho (Obj.isFreed_of_fields (Obj.data_mapFields hd _)),(Obj.cls_mapFields ..).trans hc,by rw [Obj.data_mapFields hd]; simp [rawInt]⟩
theorem pU {it t:Addr}{i:Nat}{items:Array Value}{Q:Value->Shared->Prop}(hh:A.handled=none)(hit:s.heap.IsTupleIter it t i)(ht:s.heap.IsTuple t items)(hx:items[i]?=none)
 (hE:∀ h' e,Heap.ExtBut it s.heap h'->(∃ o,h'.get? e=some o∧o.cls = .type "StopIteration")->E (.ref e) { s with heap:=h' }):wpAny (model prog w) A (Builtin.SmallTypes.nextOf (.ref it)) Q E s:=by
 obtain ⟨o,ho,hc,hd⟩:=id hit
 obtain ⟨ol,hol,_,nl,hdl⟩:=ht
 unfold Builtin.SmallTypes.nextOf
 refine wpAny_bind (wpAny_callSpecial?_slot (name:=Str.ofString "__next__") hit.typeIs F.slot_tuple_iterator_next (wpAny_call_entry F.slot_tuple_iterator_next hit.typeIs F.entry_tuple_iterator_next ?_ (F.args_tuple_iterator_next_1 _)))
 show wpAny _ _ (field (.ref it) 0 >>= _) _ _ s
 refine wpAny_bind (wpAny_field ho hd (x:=.ref t) rfl ?_)
 show wpAny _ _ (if (Value.ref t == Value.none)=true then _ else _) _ _ s
 rw [if_neg (show ¬ ((Value.ref t == Value.none)=true) from Bool.false_ne_true)]
 show wpAny _ _ (field (.ref it) 1 >>= _) _ _ s
 refine wpAny_bind (wpAny_field ho hd (x:=.int i 0) rfl ?_)
 show wpAny _ _ (seqItems? (.ref t) >>= _) _ _ s
 refine wpAny_bind (wpAny_seqItems hol hdl ?_)
 simp only [Int.toNat_natCast,hx]
 refine wpAny_bind (wpAny_rule (wpAny_bind (wpAny_setField ho hd (by simp) ?_)))
 show wpAny _ _ (newExc (.type "StopIteration") [] >>= _) _ _ _
 refine wpAny_bind ?_
 simp only [newExc,newTuple]
 refine wpAny_bind (wpAny_newObj_type ?_ (by size_fits))
 refine wpAny_bind (m:=firstArgMember _ _) (wpAny_of_eq (a:=Value.none) (by first | rfl | (simp only [firstArgMember]; rfl)) ?_)
 refine wpAny_newObj_type ?_ (by size_fits)
 simp only [raiseNew]
 refine wpAny_bind (wpAny_handled ?_)
 first | rw [show A.in1.handled=none from hh] | rw [hh]
 refine wpAny_bind (wpAny_pure (wpAny_throw ?_))
 exact hE _ _ (((Heap.SameBut.update ..).extBut.push _).push _) ⟨_,Heap.get?_push_size _ rfl,rfl⟩
end
structure Apart (z TI TO i1 i2 l1 l2:Addr):Prop where
 TIz:TI≠z
 TOz:TO≠z
 i1z:i1≠z
 i2z:i2≠z
 TITO:TI≠TO
 TIi1:TI≠i1
 TIi2:TI≠i2
 TOi1:TO≠i1
 TOi2:TO≠i2
 i12:i1≠i2
 l1n:l1 ∉ [z,TO,i1,i2]
 l2n:l2 ∉ [z,TO,i1,i2]
structure Zs (h:Heap)(z TI TO i1 i2 l1 l2:Addr)(k:Nat):Prop where
 hz:IsZip h z TI TO .none
 hTI:IsPair h TI (.ref i1) (.ref i2)
 hTO:∃ a b,IsPair h TO a b
 h1:h.IsTupleIter i1 l1 k
 h2:h.IsTupleIter i2 l2 k
theorem d7 {h h':Heap}{i l:Addr}{k:Nat}(x:h.IsTupleIter i l k)(q:∀ o,h.get? i=some o->h'.get? i=some o):h'.IsTupleIter i l k:=let ⟨o,a,b⟩:=x; ⟨o,q o a,b⟩
section
variable {prog:Program}{w:World}{A:Around}{E:Value->Shared->Prop}{s:Shared}{z TI TO i1 i2 l1 l2:Addr}{k:Nat}{xs ys:Array Value}{x y:Value}
theorem item {Q:Value->Shared->Prop}(D:Apart z TI TO i1 i2 l1 l2)(Z:Zs s.heap z TI TO i1 i2 l1 l2 k)(hl1:s.heap.IsTuple l1 xs)(hl2:s.heap.IsTuple l2 ys)(hx:xs[k]?=some x)(hy:ys[k]?=some y)
 (hQ:∀ h',IsZip h' z TI TO (rawInt s.heap.objs.size)->(∃ a b,IsPair h' TO a b)->h'.IsTupleIter i1 l1 (k + 1)->h'.IsTupleIter i2 l2 (k + 1)->IsPair h' s.heap.objs.size x y →
  (∀ c o,c ∉ [z,TO,i1,i2]->s.heap.get? c=some o->h'.get? c=some o)->Q (.ref s.heap.objs.size) { s with heap:=h' }):
 wpAny (model prog w) A (Builtin.«zip.__next__» ⟨[.ref z],[]⟩) (fun fin s'=>∃ v,fin = .done (.ret v)∧Q v s') E s:=by
 obtain ⟨hz,hTI,⟨a,b,hTO⟩,h1,h2⟩:=Z
 have n1:l1≠z∧l1≠TO∧l1≠i1∧l1≠i2:=by simpa using D.l1n
 have n2:l2≠z∧l2≠TO∧l2≠i1∧l2≠i2:=by simpa using D.l2n
 show wpAny _ _ (field (.ref z) 2 >>= _) _ _ _
 refine wpAny_bind (wpAny_field hz rfl (x:=.bool false) rfl ?_)
 show wpAny _ _ (field (.ref z) 3 >>= _) _ _ _
 refine wpAny_bind (wpAny_field hz rfl (x:=.ref TI) rfl ?_)
 refine wpAny_bind (wpAny_seqItems hTI rfl ?_)
 show wpAny _ _ (Builtin.SmallTypes.ownedTupleIsFree (.ref z) >>= _) _ _ _
 refine wpAny_bind ?_
 unfold Builtin.SmallTypes.ownedTupleIsFree
 refine wpAny_bind (wpAny_field hz rfl (x:=.none) rfl (wpAny_pure ?_))
 simp only [if_true]
 refine wpAny_bind (wpAny_rule ?_)
 refine wpAny_bind (wpAny_field hz rfl (x:=.ref TO) rfl ?_)
 refine wpAny_bind (wpAny_setField_rec hz (by simp) fun g1 hz1 s1=>?_)
 replace hz1:IsZip g1 z TI TO .ellipsis:=hz1
 refine wpAny_bind ?_
 simp only [List.zipIdx_cons,List.zipIdx_nil,List.forIn_cons,List.forIn_nil]
 refine wpAny_bind (wpAny_bind (wpAny_onRaise ?_))
 show wpAny _ _ (Builtin.SmallTypes.nextOf (.ref i1) >>= _) _ _ _
 refine wpAny_bind (iy (h1.extBut s1.extBut D.i1z) (hl1.extBut s1.extBut n1.1) hx fun g2 a2 s2=>wpAny_pure ?_)
 have t2:IsPair g2 TO a b:=s2.extBut _ _ D.TOi1 (s1.extBut _ _ D.TOz hTO)
 refine wpAny_bind (wpAny_seqItems t2 rfl ?_)
 refine wpAny_bind (wpAny_updateSeq_pair t2 fun g3 t3 s3=>?_)
 replace t3:IsPair g3 TO x b:=t3
 refine wpAny_bind (wpAny_letGo (wpAny_pure ?_))
 refine wpAny_bind (wpAny_bind (wpAny_onRaise ?_))
 show wpAny _ _ (Builtin.SmallTypes.nextOf (.ref i2) >>= _) _ _ _
 refine wpAny_bind (iy (((h2.extBut s1.extBut D.i2z).extBut s2.extBut D.i12.symm).extBut s3.extBut D.TOi2.symm) (((hl2.extBut s1.extBut n2.1).extBut s2.extBut n2.2.2.1).extBut s3.extBut n2.2.1) hy fun g4 a4 s4=>wpAny_pure ?_)
 have t4:IsPair g4 TO x b:=s4.extBut _ _ D.TOi2 t3
 refine wpAny_bind (wpAny_seqItems t4 rfl ?_)
 refine wpAny_bind (wpAny_updateSeq_pair t4 fun g5 t5 s5=>?_)
 replace t5:IsPair g5 TO x y:=t5
 refine wpAny_bind (wpAny_letGo (wpAny_pure (wpAny_pure ?_)))
 refine wpAny_bind (wpAny_seqItems t5 rfl ?_)
 refine wpAny_bind (wpAny_newTuple ?_)
 have sz:g5.objs.size=s.heap.objs.size:=by rw [s5.1,s4.1,s3.1,s2.1,s1.1]
 have z5:IsZip g5 z TI TO .ellipsis:=s5.extBut _ _ D.TOz.symm (s4.extBut _ _ D.i2z.symm (s3.extBut _ _ D.TOz.symm (s2.extBut _ _ D.i1z.symm hz1)))
 have k5:∀ c o,c ∉ [z,TO,i1,i2]->s.heap.get? c=some o->g5.get? c=some o:=fun c o hc e=>by
  have hc':c≠z∧c≠TO∧c≠i1∧c≠i2:=by simpa using hc
  exact s5.extBut _ _ hc'.2.1 (s4.extBut _ _ hc'.2.2.2 (s3.extBut _ _ hc'.2.1 (s2.extBut _ _ hc'.2.2.1 (s1.extBut _ _ hc'.1 e))))
 have a5:g5.IsTupleIter i1 l1 (k + 1):=((a2.extBut s3.extBut D.TOi1.symm).extBut s4.extBut D.i12).extBut s5.extBut D.TOi1.symm
 have b5:g5.IsTupleIter i2 l2 (k + 1):=a4.extBut s5.extBut D.TOi2.symm
 have zlt:z < g5.objs.size:=Heap.lt_size z5
 show wpAny _ _ (Builtin.SmallTypes.ownedTupleHandOut (.ref z) (.ref g5.objs.size) >>= _) _ _ _
 refine wpAny_bind ?_
 unfold Builtin.SmallTypes.ownedTupleHandOut
 have z6:IsZip (g5.push { cls:=.type "tuple",data:=.seq #[x,y] }) z TI TO .ellipsis:=Heap.get?_push_of_some _ z5
 refine wpAny_bind (wpAny_setField_rec z6 (by simp) fun g7 z7 s7=>?_)
 replace z7:IsZip g7 z TI TO (rawInt g5.objs.size):=z7
 refine wpAny_setField_rec z7 (by simp) fun g8 z8 s8=>?_
 replace z8:IsZip g8 z TI TO (rawInt g5.objs.size):=z8
 have up:∀ c o,c≠z->g5.get? c=some o->g8.get? c=some o:=fun c o c1 e=>s8.extBut _ _ c1 (s7.extBut _ _ c1 (Heap.get?_push_of_some _ e))
 have t8:IsPair g8 g5.objs.size x y:=s8.extBut _ _ (Nat.ne_of_gt zlt) (s7.extBut _ _ (Nat.ne_of_gt zlt) (Heap.get?_push_size _ rfl))
 rw [sz] at z8 t8
 refine wpAny_pure ⟨_,rfl,?_⟩
 show Q (.ref g5.objs.size) _
 rw [sz]
 exact hQ g8 z8 ⟨x,y,up _ _ D.TOz t5⟩ (d7 a5 fun o e=>up _ o D.i1z e) (d7 b5 fun o e=>up _ o D.i2z e) t8 fun c o hc e=>up c o (fun q=>hc (by simp [q])) (k5 c o hc e)
theorem A0 {Q:Fin->Shared->Prop}(hh:A.handled=none)(D:Apart z TI TO i1 i2 l1 l2)(Z:Zs s.heap z TI TO i1 i2 l1 l2 k)(hl1:s.heap.IsTuple l1 xs)(hl2:s.heap.IsTuple l2 ys)(hend:xs[k]?=none∨ys[k]?=none)
 (hE:∀ h' e,(∀ c o,c ∉ [z,TO,i1,i2]->s.heap.get? c=some o->h'.get? c=some o)->(∃ o,h'.get? e=some o∧o.cls = .type "StopIteration")->E (.ref e) { s with heap:=h' }):
 wpAny (model prog w) A (Builtin.«zip.__next__» ⟨[.ref z],[]⟩) Q E s:=by
 obtain ⟨hz,hTI,⟨a,b,hTO⟩,h1,h2⟩:=Z
 have n1:l1≠z∧l1≠TO∧l1≠i1∧l1≠i2:=by simpa using D.l1n
 have n2:l2≠z∧l2≠TO∧l2≠i1∧l2≠i2:=by simpa using D.l2n
 show wpAny _ _ (field (.ref z) 2 >>= _) _ _ _
 refine wpAny_bind (wpAny_field hz rfl (x:=.bool false) rfl ?_)
 show wpAny _ _ (field (.ref z) 3 >>= _) _ _ _
 refine wpAny_bind (wpAny_field hz rfl (x:=.ref TI) rfl ?_)
 refine wpAny_bind (wpAny_seqItems hTI rfl ?_)
 show wpAny _ _ (Builtin.SmallTypes.ownedTupleIsFree (.ref z) >>= _) _ _ _
 refine wpAny_bind ?_
 unfold Builtin.SmallTypes.ownedTupleIsFree
 refine wpAny_bind (wpAny_field hz rfl (x:=.none) rfl (wpAny_pure ?_))
 simp only [if_true]
 refine wpAny_bind (wpAny_rule ?_)
 refine wpAny_bind (wpAny_field hz rfl (x:=.ref TO) rfl ?_)
 refine wpAny_bind (wpAny_setField_rec hz (by simp) fun g1 hz1 s1=>?_)
 replace hz1:IsZip g1 z TI TO .ellipsis:=hz1
 refine wpAny_bind ?_
 simp only [List.zipIdx_cons,List.zipIdx_nil,List.forIn_cons,List.forIn_nil]
 refine wpAny_bind (wpAny_bind (wpAny_onRaise ?_))
 show wpAny _ _ (Builtin.SmallTypes.nextOf (.ref i1) >>= _) _ _ _
 cases hx:xs[k]? with
 | none =>
   refine wpAny_bind (pU hh (h1.extBut s1.extBut D.i1z) (hl1.extBut s1.extBut n1.1) hx fun g2 e s2 he=>?_)
   obtain ⟨oe,hoe,hce⟩:=he
   have z2:IsZip g2 z TI TO .ellipsis:=s2 _ _ D.i1z.symm hz1
   have ez:e≠z:=fun q=>by subst q; rw [z2] at hoe; cases hoe; simp at hce
   refine wpAny_setField_rec z2 (by simp) fun g3 _ s3=>hE g3 e (fun c o hc q=>?_) ⟨oe,s3.extBut _ _ ez hoe,hce⟩
   have hc':c≠z∧c≠TO∧c≠i1∧c≠i2:=by simpa using hc
   exact s3.extBut _ _ hc'.1 (s2 _ _ hc'.2.2.1 (s1.extBut _ _ hc'.1 q))
 | some x =>
   have hy:ys[k]?=none:=by
    rcases hend with h | h
    ·rw [hx] at h; cases h
    ·exact h
   refine wpAny_bind (iy (h1.extBut s1.extBut D.i1z) (hl1.extBut s1.extBut n1.1) hx fun g2 a2 s2=>wpAny_pure ?_)
   have t2:IsPair g2 TO a b:=s2.extBut _ _ D.TOi1 (s1.extBut _ _ D.TOz hTO)
   refine wpAny_bind (wpAny_seqItems t2 rfl ?_)
   refine wpAny_bind (wpAny_updateSeq_pair t2 fun g3 t3 s3=>?_)
   refine wpAny_bind (wpAny_letGo (wpAny_pure ?_))
   refine wpAny_bind (wpAny_bind (wpAny_onRaise ?_))
   show wpAny _ _ (Builtin.SmallTypes.nextOf (.ref i2) >>= _) _ _ _
   refine wpAny_bind (pU hh (((h2.extBut s1.extBut D.i2z).extBut s2.extBut D.i12.symm).extBut s3.extBut D.TOi2.symm) (((hl2.extBut s1.extBut n2.1).extBut s2.extBut n2.2.2.1).extBut s3.extBut n2.2.1) hy fun g4 e s4 he=>?_)
   obtain ⟨oe,hoe,hce⟩:=he
   have z4:IsZip g4 z TI TO .ellipsis:=s4 _ _ D.i2z.symm (s3.extBut _ _ D.TOz.symm (s2.extBut _ _ D.i1z.symm hz1))
   have ez:e≠z:=fun q=>by subst q; rw [z4] at hoe; cases hoe; simp at hce
   refine wpAny_setField_rec z4 (by simp) fun g5 _ s5=>hE g5 e (fun c o hc q=>?_) ⟨oe,s5.extBut _ _ ez hoe,hce⟩
   have hc':c≠z∧c≠TO∧c≠i1∧c≠i2:=by simpa using hc
   exact s5.extBut _ _ hc'.1 (s4 _ _ hc'.2.2.2 (s3.extBut _ _ hc'.2.1 (s2.extBut _ _ hc'.2.2.1 (s1.extBut _ _ hc'.1 q))))
theorem sX {Q:Option Value->Shared->Prop}(D:Apart z TI TO i1 i2 l1 l2)(Z:Zs s.heap z TI TO i1 i2 l1 l2 k)(hl1:s.heap.IsTuple l1 xs)(hl2:s.heap.IsTuple l2 ys)(hx:xs[k]?=some x)(hy:ys[k]?=some y)
 (hQ:∀ h',IsZip h' z TI TO (rawInt s.heap.objs.size)->(∃ a b,IsPair h' TO a b)->h'.IsTupleIter i1 l1 (k + 1)->h'.IsTupleIter i2 l2 (k + 1)->IsPair h' s.heap.objs.size x y →
  (∀ c o,c ∉ [z,TO,i1,i2]->s.heap.get? c=some o->h'.get? c=some o)->Q (some (.ref s.heap.objs.size)) { s with heap:=h' }):
 wpAny (model prog w) A (pyNext (.ref z)) Q E s:=by
 have hT:s.TypeIs (.ref z) "zip":=⟨_,Z.hz,rfl⟩
 unfold pyNext
 exact wpAny_bind (wpAny_attempt (wpAny_callSpecial?_slot (name:=Str.ofString "__next__") hT F.slot_zip_next
  (wpAny_call_entry F.slot_zip_next hT F.entry_zip_next (item D Z hl1 hl2 hx hy fun h' a1 a2 a3 a4 a5 a6=>wpAny_pure (hQ h' a1 a2 a3 a4 a5 a6)) (F.args_zip_next_1 _))))
theorem tK {Q:Option Value->Shared->Prop}(hh:A.handled=none)(D:Apart z TI TO i1 i2 l1 l2)(Z:Zs s.heap z TI TO i1 i2 l1 l2 k)(hl1:s.heap.IsTuple l1 xs)(hl2:s.heap.IsTuple l2 ys)(hend:xs[k]?=none∨ys[k]?=none)
 (hQ:∀ h',(∀ c o,c ∉ [z,TO,i1,i2]->s.heap.get? c=some o->h'.get? c=some o)->Q none { s with heap:=h' }):wpAny (model prog w) A (pyNext (.ref z)) Q E s:=by
 have hT:s.TypeIs (.ref z) "zip":=⟨_,Z.hz,rfl⟩
 unfold pyNext
 refine wpAny_bind (wpAny_attempt (wpAny_callSpecial?_slot (name:=Str.ofString "__next__") hT F.slot_zip_next
  (wpAny_call_entry F.slot_zip_next hT F.entry_zip_next (A0 hh D Z hl1 hl2 hend fun h' e hk he=>?_) (F.args_zip_next_1 _))))
 obtain ⟨o,ho,hc⟩:=he
 refine wpAny_bind (wpAny_isInstance (T:="StopIteration") (b:=true) ⟨o,ho,hc⟩ isSubtype_stop ?_)
 exact wpAny_pure (hQ _ hk)
end
abbrev g1 (h:Heap)(l1:Addr):Heap:=h.push { cls:=.type "tuple_iterator",data:=.fields #[.ref l1,.int 0 0] }
abbrev g2 (h:Heap)(l1 l2:Addr):Heap:=(g1 h l1).push { cls:=.type "tuple_iterator",data:=.fields #[.ref l2,.int 0 0] }
abbrev g3 (h:Heap)(l1 l2:Addr):Heap:=(g2 h l1 l2).push { cls:=.type "tuple",data:=.seq #[.ref h.objs.size,.ref (g1 h l1).objs.size] }
abbrev g4 (h:Heap)(l1 l2:Addr):Heap:=(g3 h l1 l2).push { cls:=.type "tuple",data:=.seq #[.none,.none] }
abbrev g5 (h:Heap)(l1 l2:Addr):Heap:=(g4 h l1 l2).push { cls:=.type "zip",data:=.fields #[.none,.bool false,.bool false,.ref (g2 h l1 l2).objs.size,.ref (g3 h l1 l2).objs.size] }
theorem rS (l1 l2:Addr)(xs ys:Array Value):
 Meets (Builtin.«zip.__new__» ⟨[.type "zip",.ref l1,.ref l2],[]⟩) (fun _ R s=>s.heap.IsTuple l1 xs∧s.heap.IsTuple l2 ys∧R (.ok (.ret (.ref (g4 s.heap l1 l2).objs.size))) { s with heap:=g5 s.heap l1 l2 }):=
 .of_wp fun prog w A R s h=>by
  obtain ⟨hp,g,d,tk,os⟩:=s; obtain ⟨hl1,hl2,h⟩:=h
  have hsub:=sub_zip
  have hL1:Heap.IsTuple (Shared.heap ⟨hp,g,d,tk,os⟩) l1 xs:=hl1
  have hL2:Heap.IsTuple (Shared.heap ⟨hp.push { cls:=.type "tuple_iterator",data:=.fields #[.ref l1,.int 0 0] },g,d,tk,os⟩) l2 ys:=Heap.IsTuple.push hl2 _
  wp_walk using wpAny_pyIter_tuple hL1,wpAny_pyIter_tuple hL2
  exact ⟨_,rfl,h⟩
section
variable {prog:Program}{w:World}{A:Around}{E:Value->Shared->Prop}{s:Shared}
theorem zG {l1 l2:Addr}{xs ys:Array Value}{Q:Value->Shared->Prop}(hl1:s.heap.IsTuple l1 xs)(hl2:s.heap.IsTuple l2 ys)
 (h:∀ h',Zs h' (s.heap.objs.size + 4) (s.heap.objs.size + 2) (s.heap.objs.size + 3) s.heap.objs.size (s.heap.objs.size + 1) l1 l2 0->(∀ c o,s.heap.get? c=some o->h'.get? c=some o)->Q (.ref (s.heap.objs.size + 4)) { s with heap:=h' }):
 wpAny (model prog w) A (call (.type "zip") [.ref l1,.ref l2]) Q E s:=by
 refine callType_new F.called_zip (by decide) (F.typeCall_zip_2 _ _) (F.newCall_zip_2 _ _) (fun obj=>F.args_object_init_3 obj _ _) F.entry_zip_new (rS l1 l2 xs ys) ⟨hl1,hl2,?_⟩
 have z1:(g1 s.heap l1).objs.size=s.heap.objs.size + 1:=Heap.size_push ..
 have z2:(g2 s.heap l1 l2).objs.size=s.heap.objs.size + 2:=by rw [Heap.size_push,z1]
 have z3:(g3 s.heap l1 l2).objs.size=s.heap.objs.size + 3:=by rw [Heap.size_push,z2]
 have z4:(g4 s.heap l1 l2).objs.size=s.heap.objs.size + 4:=by rw [Heap.size_push,z3]
 have q5:(g5 s.heap l1 l2).get? (g4 s.heap l1 l2).objs.size=some _:=Heap.get?_push_size _ rfl
 have q4:(g5 s.heap l1 l2).get? (g3 s.heap l1 l2).objs.size=some _:=Heap.get?_push_of_some _ (Heap.get?_push_size _ rfl)
 have q3:(g5 s.heap l1 l2).get? (g2 s.heap l1 l2).objs.size=some _:=Heap.get?_push_of_some _ (Heap.get?_push_of_some _ (Heap.get?_push_size _ rfl))
 have q2:(g5 s.heap l1 l2).get? (g1 s.heap l1).objs.size=some _:=Heap.get?_push_of_some _ (Heap.get?_push_of_some _ (Heap.get?_push_of_some _ (Heap.get?_push_size _ rfl)))
 have q1:(g5 s.heap l1 l2).get? s.heap.objs.size=some _:=Heap.get?_push_of_some _ (Heap.get?_push_of_some _ (Heap.get?_push_of_some _ (Heap.get?_push_of_some _ (Heap.get?_push_size _ rfl))))
 show _∧_
 rw [z2,z3,z4] at q5
 rw [z1,z2] at q3
 rw [z3] at q4
 rw [z1] at q2
 rw [z4]
 exact ⟨⟨_,q5,rfl⟩,h _ ⟨q5,q3,⟨_,_,q4⟩,⟨_,q1,rfl,rfl⟩,⟨_,q2,rfl,rfl⟩⟩ fun c o e=>Heap.get?_push_of_some _ (Heap.get?_push_of_some _ (Heap.get?_push_of_some _ (Heap.get?_push_of_some _ (Heap.get?_push_of_some _ e))))⟩
end
theorem bJ {a b:Nat}(h:a≠b):(a:Addr)≠b:=h
theorem uH (n a b:Nat)(ha:a < n)(hb:b < n):Apart (n + 4) (n + 2) (n + 3) n (n + 1) a b:=by
 refine ⟨bJ ?_,bJ ?_,bJ ?_,bJ ?_,bJ ?_,bJ ?_,bJ ?_,bJ ?_,bJ ?_,bJ ?_,?_,?_⟩
 any_goals omega
 ·simp only [List.mem_cons,List.not_mem_nil,or_false,not_or]
  exact ⟨bJ (by omega),bJ (by omega),bJ (by omega),bJ (by omega)⟩
 ·simp only [List.mem_cons,List.not_mem_nil,or_false,not_or]
  exact ⟨bJ (by omega),bJ (by omega),bJ (by omega),bJ (by omega)⟩
end Zp
namespace L2
open PySem PySem.Spec PyProof.Rows PySem.W
def AN (K:Frag)(a b:Addr):It :=
 ⟨fun i H=>∃ xs ys x y,bg K H a xs∧bg K H b ys∧xs[i]?=some x∧ys[i]?=some y,
  fun i H v H'=>∃ T x y,(∀ xs,bg K H a xs->xs[i]?=some x)∧(∀ ys,bg K H b ys->ys[i]?=some y)∧H T=none∧v = .ref T∧H'=upd H T (.tup [x,y]),
  fun i H=>∃ xs ys,bg K H a xs∧bg K H b ys∧(xs.length≤i∨ys.length≤i)⟩
theorem u5 {P:Program}{w:World}{K:Frag}{elts:List Expr}{x1:Nat}{tp:Pos}{a b z TI TO i1 i2:Addr}(D:Zp.Apart z TI TO i1 i2 a b):
 Turn P w K (.Tuple elts x1 tp) (AN K a b) [z,TO,i1,i2,TI] z (fun i h=>Zp.Zs h z TI TO i1 i2 a b i) where
 mem:=by simp
 obj:=fun i h st c hb=>by
  obtain ⟨h1,h2,⟨_,_,h3⟩,⟨o4,h4,_,d4⟩,⟨o5,h5,_,d5⟩⟩:=st
  rcases (by simpa using hb:c=z∨c=TO∨c=i1∨c=i2∨c=TI) with q | q | q | q | q
  ·subst q; exact ⟨_,h1,fun v q=>by cases q⟩
  ·subst q; exact ⟨_,h3,fun v q=>by cases q⟩
  ·subst q; exact ⟨_,h4,fun v q=>by rw [d4] at q; cases q⟩
  ·subst q; exact ⟨_,h5,fun v q=>by rw [d5] at q; cases q⟩
  ·subst q; exact ⟨_,h2,fun v q=>by cases q⟩
 keep:=fun i h h' st k=>by
  obtain ⟨h1,h2,⟨_,_,h3⟩,h4,h5⟩:=st
  exact ⟨k z (by simp) _ h1,k TI (by simp) _ h2,⟨_,_,k TO (by simp) _ h3⟩,Zp.d7 h4 fun o q=>k i1 (by simp) o q,Zp.d7 h5 fun o q=>k i2 (by simp) o q⟩
 item:=by
  intro X hP hw hK hc i pins s σ H E I hf st hg
  subst hP hw hK
  obtain ⟨xs,ys,x,y,hq,hr,hx,hy⟩:=hg
  obtain ⟨its,rv,p,hz⟩:=I.tuple hq
  obtain ⟨jts,rw',p',hz'⟩:=I.tuple hr
  obtain ⟨u,hu,ru⟩:=rv.get hx
  obtain ⟨v,hv,ru'⟩:=rw'.get hy
  refine Zp.sX D st (show s.heap.IsTuple a its.toArray from p) (show s.heap.IsTuple b jts.toArray from p') (x:=u) (y:=v) (by simpa using hu) (by simpa using hv) fun h' q1 q2 q3 q4 q5 q6=>?_
  refine ⟨_,rfl,wpAny_letOwnedTupleGo_zip (s:={ s with heap:=h' }) q1 fun h2 q7 q8=>?_⟩
  have lt:∀ c o,s.heap.get? c=some o->c≠s.heap.objs.size:=fun c o e=>Nat.ne_of_lt (Heap.lt_size e)
  have I1:Inv X pins σ H { s with heap:=h2 }:=I.turnedL (t':=s.toks) (ch:=[z,TO,i1,i2]) (fun c o hc e=>(q8.2 c fun q=>hc (by simp [q])).trans (q6 c o hc e)) fun c hc=>hf c (by
   rcases (by simpa using hc:c=z∨c=TO∨c=i1∨c=i2) with q | q | q | q <;> simp [q])
  have nz:s.heap.objs.size≠z:=Ne.symm (lt z _ st.hz)
  have tup:h2.get? s.heap.objs.size=some { cls:=.type "tuple",data:=.seq #[u,v] }:=(q8.2 _ nz).trans q5
  have fr:H s.heap.objs.size=none:=I.hok.fresh (Nat.le_refl _)
  have I2:=I.tupAt (xs:=[x,y]) (its:=[u,v]) I1 (Nat.le_refl _) tup (.cons ru (.cons ru' .nil)) f9
  have up:∀ c o,c≠z->h'.get? c=some o->h2.get? c=some o:=fun c o hc e=>(q8.2 c hc).trans e
  obtain ⟨aa,bb,q2⟩:=q2
  have hTI':IsPair h' TI (.ref i1) (.ref i2):=q6 TI _ (by simp only [List.mem_cons,List.not_mem_nil,or_false,not_or]; exact ⟨D.TIz,D.TITO,D.TIi1,D.TIi2⟩) st.hTI
  refine ⟨.ref s.heap.objs.size,_,I2,rfl,⟨s.heap.objs.size,x,y,fun zs hy'=>by rw [I.tuple_inj hy' hq]; exact hx,fun zs hy'=>by rw [I.tuple_inj hy' hr]; exact hy,fr,rfl,rfl⟩,
   ⟨q7,up _ _ D.TIz hTI',⟨aa,bb,up _ _ D.TOz q2⟩,Zp.d7 q3 fun o e=>up _ o D.i1z e,Zp.d7 q4 fun o e=>up _ o D.i2z e⟩,fun c hb=>?_⟩
  have nb:c≠s.heap.objs.size:=by
   obtain ⟨h1,h2,⟨_,_,h3⟩,⟨o4,h4,_,d4⟩,⟨o5,h5,_,d5⟩⟩:=st
   rcases (by simpa using hb:c=z∨c=TO∨c=i1∨c=i2∨c=TI) with q | q | q | q | q <;> subst q
   ·exact lt _ _ h1
   ·exact lt _ _ h3
   ·exact lt _ _ h4
   ·exact lt _ _ h5
   ·exact lt _ _ h2
  rw [ar nb]
  exact (hf c hb).1
 done:=by
  intro X hP hw hK hc i pins s σ H E I hf st hg
  subst hP hw hK
  obtain ⟨xs,ys,hq,hr,hx⟩:=hg
  obtain ⟨its,rv,p,hz⟩:=I.tuple hq
  obtain ⟨jts,rw',p',hz'⟩:=I.tuple hr
  have l1:=rv.length
  have l2:=rw'.length
  refine Zp.tK (I.ok.hd hc) D st (show s.heap.IsTuple a its.toArray from p) (show s.heap.IsTuple b jts.toArray from p') (by
   rcases hx with q | q
   ·left; simp; omega
   ·right; simp; omega) fun h' q=>⟨rfl,?_⟩
  exact I.turnedL (t':=s.toks) (ch:=[z,TO,i1,i2]) q fun c hc=>hf c (by
   rcases (by simpa using hc:c=z∨c=TO∨c=i1∨c=i2) with q | q | q | q <;> simp [q])
 self:=fun _ _ _ _ _ st h=>wpAny_pyIter_zip st.hz h
def A5 (K:Frag)(ta tb:TE):TI:=fun σ H R=>cG ta (cG tb tNil) σ H fun vs H1=>∃ a b xs ys,vs=[.ref a,.ref b]∧bg K H1 a xs∧bg K H1 b ys∧R (AN K a b) H1
theorem yr {X:Cx}{ea eb:Expr}{ta tb:TE}{elts:List Expr}{x1:Nat}{tp p pos:Pos}(ha:PE X ea ta)(hb:PE X eb tb)(hg:Gl X "zip")(hm:X.mg "zip"=none)(hs:eT ea=false:=by rfl)(hs':eT eb=false:=by rfl):
 PI X (.Tuple elts x1 tp) (.Call (.Name "zip" p) [ea,eb] [] pos) (A5 X.K ta tb):=by
 intro pins s σ H R I h
 refine wpAny_Call_Name_kw (dH I hg hm (by rfl) ?_ (by decide) (by decide))
 refine PyProof.Rows.callWith_type1 (br (aj ha (aj hb af hs') hs pos pins s σ H _ I h) fun us s1 ⟨vs,H1,I1,r1,a,b,xs,ys,hv,hq,hr,rr⟩=>?_) (bu hs) (by rw [bu hs']; rfl)
 subst hv
 obtain ⟨u,u',rfl,ru,ru'⟩:=p9 r1
 cases (show u=Value.ref a from ru)
 cases (show u'=Value.ref b from ru')
 obtain ⟨its,rv,pl,hz⟩:=I1.tuple hq
 obtain ⟨jts,rw',pl',hz'⟩:=I1.tuple hr
 refine Zp.zG (show s1.heap.IsTuple a its.toArray from pl) (show s1.heap.IsTuple b jts.toArray from pl') fun h' q1 q4=>?_
 have I2:Inv X pins σ H1 { s1 with heap:=h' }:=I1.kept (t':=s1.toks) q4
 have la:a < s1.heap.objs.size:=by obtain ⟨o,e,_⟩:=pl; exact Heap.lt_size e
 have lb:b < s1.heap.objs.size:=by obtain ⟨o,e,_⟩:=pl'; exact Heap.lt_size e
 refine wpAny_pyIter_zip (s:={ s1 with heap:=h' }) q1.hz ?_
 refine ⟨s1.heap.objs.size + 4,[s1.heap.objs.size + 4,s1.heap.objs.size + 3,s1.heap.objs.size,s1.heap.objs.size + 1,s1.heap.objs.size + 2],_,AN X.K a b,H1,rfl,I2,u5 (Zp.uH _ _ _ la lb),q1,fun c hc=>?_,rr⟩
 have hb':s1.heap.objs.size≤c:=by
  rcases (by simpa using hc:c=s1.heap.objs.size + 4∨c=s1.heap.objs.size + 3∨c=s1.heap.objs.size∨c=s1.heap.objs.size + 1∨c=s1.heap.objs.size + 2) with q | q | q | q | q <;> rw [q]
  ·exact Nat.le_add_right _ _
  ·exact Nat.le_add_right _ _
  ·exact Nat.le_refl _
  ·exact Nat.le_add_right _ _
  ·exact Nat.le_add_right _ _
 exact I1.fpOk hb' (I1.hok.fresh hb')
end L2
namespace K05
open PySem L2 PySem.W
abbrev BH:Stmt:=ba (aY 33) 1
abbrev qf:Stmt:=ba (aY 33) 3
abbrev va:Stmt:=(aY 10)
abbrev fQ:Stmt:=(aY 11)
def Az (C:Addr):Sp:=fun vs H Q _=>∃ (p dx:Addr)(i:Int)(y:V),vs=[.ref p,y]∧H p=some (.ins C dx (eC i)) ∧
 ((∃ q dy j,y = .ref q∧H q=some (.ins C dy (eC j))∧Q (.bl (decide (i=j))) H)∨∃ T,Th H y T∧Q (.bl false) H)
def qL (C:Addr):Sp:=fun vs H Q _=>∃ (p dx:Addr)(i:Int),vs=[.ref p]∧H p=some (.ins C dx (eC i))∧Q (.int i) H
def bX:V->Bool
 | .int i=>decide (0≤i)&&decide (i < 60)
 | _=>false
def spPlace:Sp:=fun vs H Q _=>∃ x T,vs=[x]∧Th H x T∧Q (.bl (bX x)) H
variable {P:Program}{w:World}{K:PySem.W.Frag}{mg:Str->Option Value}{base:Heap}
theorem Bk:FnScope ["self","other"] ["self","other"] (ao BH):=dB (by decide +kernel)
theorem Ah {f C:Addr}{fd:FuncData}(F:Fun K "__eq__" "Field.__eq__" BH f fd)(c:FieldK K mg C)(n:Nones mg):FnOk P w K mg base (bh P w) 1 f fd ["self","other"] (Az C):=by
 refine F.okN Bk (fun vs H Q E h=>?_) (fun cdv A outer s H vs Q E hr h=>?_)
 ·obtain ⟨p,dx,i,y,rfl,_⟩:=h
  rfl
 ·obtain ⟨p,dx,i,y,rfl,hp,h⟩:=h
  refine ⟨_,aq (az (c8 (aH bx (by rfl) n.isi (by rfl) (b8 (pv 1) (b8 (cj (by rfl) c.mgC (show aC (.ref C) (.ref C) from rfl)) af)))
   (fj (bp cx (ck (pv 0) rfl) (ck (pv 1) rfl) (ax _))))),?_⟩
  rcases h with ⟨q,dy,j,rfl,hq,z⟩ | ⟨T,th,z⟩
  ·refine ⟨_,rfl,.ref q,.ref C,_,_,_,rfl,rfl,c.ty hq,c.is,_,rfl,?_⟩
   refine cf ?_
   refine ⟨_,rfl,p,C,dx,_,_,rfl,hp,c.cl,c.nP,rfl,_,rfl,q,C,dy,_,_,rfl,hq,c.cl,c.nP,rfl,rfl,?_⟩
   have e:decide (V.int i=V.int j)=decide (i=j):=by simp
   rw [e]
   exact z
  ·exact ⟨_,rfl,y,.ref C,_,_,_,rfl,rfl,th.ty,c.no th,_,rfl,cq z⟩
theorem tV:FnScope ["self"] ["self"] (ao qf):=dB (by decide +kernel)
theorem vP {f C:Addr}{fd:FuncData}(F:Fun K "prime" "Field.prime" qf f fd)(c:FieldK K mg C):FnOk P w K mg base (bh P w) 1 f fd ["self"] (qL C):=by
 refine F.okN tV (fun vs H Q E h=>?_) (fun cdv A outer s H vs Q E hr h=>?_)
 ·obtain ⟨p,dx,i,rfl,_⟩:=h
  rfl
 ·obtain ⟨p,dx,i,rfl,hp,q⟩:=h
  exact ⟨_,aq (az (ck (pv 0) rfl)),_,rfl,p,C,dx,_,_,rfl,hp,c.cl,c.nP,rfl,q⟩
theorem xk:FnScope ["thing"] ["thing"] (ao va):=dB (by decide +kernel)
theorem uO {f fw:Addr}{fd fdw:FuncData}{tM:Tok}(F:Fun K "is_place" "is_place" va f fd)(mMP:mg "MOST_PLACES"=some (.int 60 tM))
 (FW:FnOk P w K mg base (bh P w) 1 fw fdw ["thing"] spWhole)(bW:L2.ay K fdw ["thing"] [])(mW:mg "is_whole"=some (.ref fw))(kW:keepIn K (.ref fw)=true):FnOk P w K mg base (bh P w) 2 f fd ["thing"] spPlace:=by
 refine F.okN xk (fun vs H Q E h=>?_) (fun cdv A outer s H vs Q E hr h=>?_)
 ·obtain ⟨x,T,rfl,_⟩:=h
  rfl
 ·obtain ⟨x,T,rfl,th,q⟩:=h
  have hr1:Room 1 _:=hr.mono (by decide)
  refine ⟨_,aq (az (c8 (av FW hr1 (by rfl) mW kW bW .nil ae (@aj _ _ _ _ _ (pv 0) af rfl)) (fj (mV xH gO ah (pv 0) (cj (by rfl) mMP (show aC (.int 60) (.int 60 tM) from ⟨_,rfl⟩)))))),?_⟩
  refine ⟨_,rfl,x,T,rfl,th,_,rfl,?_⟩
  cases e:cX x with
  | false =>
    have z:bX x=false:=by cases x <;> first | rfl | cases e
    rw [z] at q
    exact cq q
  | true =>
    have z1:∃ i,x = .int i:=by cases x <;> first | exact ⟨_,rfl⟩ | cases e
    obtain ⟨i,rfl⟩:=z1
    refine cf ?_
    refine ⟨_,rfl,_,_,rfl,rfl,_,rfl,?_⟩
    refine bF (fun h=>?_) (fun h=>?_)
    ·refine ⟨_,_,rfl,rfl,?_⟩
     have h':decide (0≤i)=true:=h
     have z:bX (.int i)=decide (i < 60):=by show (decide (0≤i)&&decide (i < 60))=_; rw [h',Bool.true_and]
     rw [z] at q
     exact q
    ·have h':decide (0≤i)=false:=by simpa using h
     have z:bX (.int i)=false:=by show (decide (0≤i)&&decide (i < 60))=_; rw [h',Bool.false_and]
     rw [z] at q
     exact q
end K05
namespace HT
open PySem PyProof.Rows
section
variable {prog:Program}{w:World}{A:Around}{E:Value->Shared->Prop}{s:Shared}
theorem eG {t sl:Addr}{items:Array Value}{vl vu:Value}{lo hi:Option Int}{Q:Value->Shared->Prop}(ht:IsTup s.heap t items)(hs:s.heap.IsSliceOf sl vl vu .none)(pl:IsPart vl lo)(pu:IsPart vu hi)
 (h0:cZ items.size 0 lo=0)(h1:cZ items.size items.size hi=items.size)(h:Q (.ref t) s):wpAny (model prog w) A (getItem (.ref t) (.ref sl)) Q E s:=by
 obtain ⟨os,hos,hcs,hds⟩:=id hs
 have hTs:s.TypeIs (.ref sl) "slice":=⟨os,hos,hcs⟩
 unfold getItem
 try with_reducible refine wpAny_holding ?_
 first | refine wpAny_bind (wpAny_pure ?_) | skip
 refine wpAny_bind (wpAny_sequenceKey ht.typeIs (by decide) ?_)
 refine wpAny_bind (wpAny_callSpecial?_slot (name:=Str.ofString "__getitem__") ht.typeIs PyProof.Rows.slot_tuple_getitem
  (wpAny_call_entry PyProof.Rows.slot_tuple_getitem ht.typeIs entry_tuple_getitem ?_ (args_tuple_getitem _ _)))
 show wpAny _ _ (Builtin.Tuple.tupleItemsOf (.ref t) >>= _) _ _ s
 refine wpAny_bind (tupleItemsOf_ ht ?_)
 refine wpAny_bind (wpAny_typeOf hTs ?_)
 rw [if_pos (by decide)]
 refine wpAny_bind (df hs pl pu ?_)
 rw [h0,h1]
 have hyes:((((0:Nat):Int) == 0&&(1:Int) == 1&&(items.size - 0) == items.size)=true):=by simp
 dsimp only
 rw [if_pos hyes]
 show wpAny _ _ (Builtin.Tuple.tupleIsExact (.ref t) >>= _) _ _ s
 refine wpAny_bind ?_
 unfold Builtin.Tuple.tupleIsExact
 refine wpAny_bind (wpAny_typeOf ht.typeIs (wpAny_pure ?_))
 rw [if_pos (by decide)]
 refine wpAny_bind (wpAny_rule ?_)
 exact wpAny_pure ⟨_,rfl,wpAny_pure h⟩
end
end HT
namespace L2
open PySem PySem.Spec PyProof.Rows PySem.W
variable {X:Cx}
def A3 (K:Frag):V->Option Int->Option Int->Hp->VK->Prop:=fun x lo hi H Q=>∃ a xs,x = .ref a∧bg K H a xs∧(kH xs lo hi=xs->Q (.ref a) H)∧∀ p,H p=none->Q (.ref p) (upd H p (.tup (kH xs lo hi)))
theorem xv:Bg X (A3 X.K):=by
 intro pins s σ H x v vl vu lo hi sl Q I rx hs pl pu h
 obtain ⟨a,xs,rfl,hx,h1,h2⟩:=h
 by_cases hw:HT.cZ xs.length 0 lo=0∧HT.cZ xs.length xs.length hi=xs.length
 ·cases rx
  obtain ⟨its,r,ht,hz⟩:=I.tuple hx
  have hlen:its.toArray.size=xs.length:=by rw [List.size_toArray]; exact r.length.symm
  refine ⟨"tuple",_,PyProof.Rows.slot_tuple_getitem.lookup,ht.typeIs,?_⟩
  refine HT.eG ht hs pl pu (by rw [hlen]; exact hw.1) (by rw [hlen]; exact hw.2) ?_
  refine ⟨.ref a,H,I,rfl,h1 ?_⟩
  unfold kH
  rw [hw.1,hw.2]
  simp
 ·exact y8 pins s σ H (.ref a) v vl vu lo hi sl Q I rx hs pl pu ⟨a,xs,rfl,hx,hw,h2⟩
end L2
namespace K05
open PySem L2 PySem.W
inductive PX (H:Hp):V->Option (List V)->Prop where
 | no {x:V}{T:String}:Th H x T->T ≠ "tuple"->PX H x none
 | tup {a:Addr}{xs:List V}:H a=some (.tup xs)->xs.length < 4000->(∀ y∈xs,∃ T,Th H y T)->PX H (.ref a) (some xs)
def zy:V->V->Bool
 | .int a,.int b=>decide (a < b)
 | _,_=>false
def dX (xs:List V):Bool:=(xs.zip (xs.drop 1)).all fun p=>zy p.1 p.2
def iG:Option (List V)->Bool
 | none=>false
 | some xs=>xs.all bX&&dX xs
def spProduct:Sp:=fun vs H Q _=>∃ x o,vs=[x]∧PX H x o∧∀ H',aA H H'->Q (.bl (iG o)) H'
theorem z9 (xs:List V):kH xs (some 1) none=xs.drop 1:=by
 unfold kH HT.cZ
 cases xs with
 | nil=>rfl
 | cons x xs=>simp
theorem sQ:FnScope ["thing"] ["thing"] (ao fQ):=dB (by decide +kernel)
theorem oC:∀ bs:List Bool,Paired AU (bs.map V.bl) bs
 | []=>.nil
 | b :: bs=>.cons rfl (oC bs)
variable {P:Program}{w:World}{K:PySem.W.Frag}{mg:Str->Option Value}{base:Heap}
theorem oo {f fp:Addr}{fd fdp:FuncData}(F:Fun K "is_product" "is_product" fQ f fd)(m_isinstance:mg "isinstance"=none)(m_tuple:mg "tuple"=none)(m_all:mg "all"=none)(m_zip:mg "zip"=none)
 (FP:FnOk P w K mg base (bh P w) 2 fp fdp ["thing"] spPlace)(bP:L2.ay K fdp ["thing"] [])(mP:mg "is_place"=some (.ref fp))(kP:keepIn K (.ref fp)=true):FnOk P w K mg base (bh P w) 3 f fd ["thing"] spProduct:=by
 refine F.okN sQ (fun vs H Q E h=>?_) (fun cdv A outer s H vs Q E hr h=>?_)
 ·obtain ⟨x,o,rfl,_⟩:=h
  rfl
 ·obtain ⟨x,o,rfl,px,q⟩:=h
  have hr2:Room 2 _:=hr.mono (by decide)
  refine ⟨_,(ai (bt (PW.pt (dh (cz (c7 (aH bx (by rfl) m_isinstance (by rfl) (@aj _ _ _ _ _ (pv 0) (@aj _ _ _ _ _ (eu (by rfl) m_tuple (by rfl) (show aC (.ty "tuple") (.type "tuple") from rfl)) af rfl) rfl)))) (cL (cz (c7 (aH (nO rfl) (by rfl) m_all (by rfl) (@aj _ _ _ _ _ (dG (N:=["place"]) (nl:=1) (js:=[]) (osc:=ao fQ) ⟨rfl,rfl,by decide +kernel,by decide +kernel,by decide +kernel,rfl,.nil,by decide +kernel⟩ rfl
   (pL (pv 0))
   (fun C fp s H=>aG (i:=0) (by show (["place"]:List Str).Nodup; decide +kernel) rfl (Or.inl rfl) (Or.inr rfl))
   (fun C fp s H=>dE)
   (fun C fp s H=>(av FP hr2 (by rfl) mP kP bP .nil ae (@aj _ _ _ _ _ (pv 0) af rfl)))) af rfl))))))) (aq (az gI)) aO)
   (aq (az (aH (nO rfl) (by rfl) m_all (by rfl) (@aj _ _ _ _ _ (dG (g:=uP K 2 (eK (cc 0) (eK (cc 1) gNil))) (N:=["place","later"]) (nl:=2) (js:=[]) (osc:=ao fQ) ⟨rfl,rfl,by decide +kernel,by decide +kernel,by decide +kernel,rfl,.nil,by decide +kernel⟩ rfl
    (yr (pv 0) (tW xv (pv 0) (qF ah) xf) (by rfl) m_zip)
    (fun C fp s H=>(cH (X:=d8 _ ["place","later"] _ C fp s H) rfl (aN (aG (X:=d8 _ ["place","later"] _ C fp s H) (i:=0) (by show (["place","later"]:List Str).Nodup; decide +kernel) rfl (Or.inl rfl) (Or.inr rfl)) (aN (aG (X:=d8 _ ["place","later"] _ C fp s H) (i:=1) (by show (["place","later"]:List Str).Nodup; decide +kernel) rfl (Or.inl rfl) (Or.inr rfl)) b7))))
    (fun C fp s H=>dE)
    (fun C fp s H=>(@bp _ _ _ _ _ _ _ _ gO (pv 0) (pv 1) (ax _)))) af rfl))))),?_⟩
  cases px with
  | @no x T th ne =>
    refine ⟨_,rfl,x,.ty "tuple",_,_,_,rfl,rfl,th.ty,th.isTup,_,rfl,?_⟩
    rw [decide_eq_false ne]
    exact cf (cf (q _ (aA.refl _)))
  | @tup a xs ha hl hth =>
    refine ⟨_,rfl,.ref a,.ty "tuple",_,_,_,rfl,rfl,.of (.tup ha),rfl,_,rfl,cq ?_⟩
    have bnd:∀ n,n≤xs.length->n < sizeLine:=fun n hn=>Nat.lt_of_le_of_lt hn (Nat.lt_trans hl (by decide))
    refine ⟨_,rfl,a,rfl,⟨xs,bg.of ha⟩,?_⟩
    refine ⟨fun i m ys σ' H'=>m=xs.length - i∧i≤xs.length∧ys=((xs.take i).map bX).map V.bl∧H=H'∧∃ o,σ'=[o],⟨xs.length,by simp,Nat.zero_le _,by simp,rfl,none,rfl⟩,?_⟩
    rintro i m ys σ' H' ⟨rfl,hi,rfl,rfl,o,rfl⟩
    refine ⟨bnd _ (by simp; omega),?_⟩
    by_cases hlt:i < xs.length
    ·refine .inr ⟨⟨xs,xs[i],bg.of ha,by simp [hlt]⟩,fun y H2 hy=>?_⟩
     obtain ⟨rfl,hy⟩:=hy
     have ey:=hy xs (bg.of ha)
     obtain ⟨T,th⟩:=hth y (List.mem_of_getElem? ey)
     dsimp only [tYes,cc]
     refine cf ⟨_,rfl,y,T,rfl,th,xs.length - (i + 1),by omega,rfl,hlt,?_,rfl,_,rfl⟩
     have e2:xs.take (i + 1)=xs.take i++[y]:=by
      rw [List.take_add_one,ey]; rfl
     rw [e2]
     simp
    ·have ei:i=xs.length:=by omega
     subst ei
     refine .inl ⟨⟨xs,bg.of ha,Nat.le_refl _⟩,fun D hD=>?_⟩
     rw [List.take_length]
     refine ⟨D,_,xs.map bX,rfl,a7.of ag,oC _,_,rfl,?_⟩
     have sD:aA H (upd H D (.lst ((xs.map bX).map V.bl))):=ak hD
     cases hp:(xs.map bX).all id with
     | false =>
       have z:iG (some xs)=false:=by
        show (xs.all bX&&dX xs)=_
        have:xs.all bX=false:=by rw [← hp,List.all_map]; rfl
        rw [this,Bool.false_and]
       rw [z] at q
       exact cf (q _ sD)
     | true =>
       refine cq ?_
       have z:iG (some xs)=dX xs:=by
        show (xs.all bX&&dX xs)=_
        have:xs.all bX=true:=by rw [← hp,List.all_map]; rfl
        rw [this,Bool.true_and]
       rw [z] at q
       generalize upd H D (.lst ((xs.map bX).map V.bl))=H1 at sD ⊢
       have ha1:=sD _ _ ha
       have hint:∀ y∈xs,∃ n,y=V.int n:=fun y hy=>by
        have:bX y=true:=List.all_eq_true.mp hp _ (List.mem_map_of_mem hy)
        cases y <;> first | exact ⟨_,rfl⟩ | cases this
       have key:∀ (b:Addr)(H2:Hp),aA H H2->H2 a=some (.tup xs)->H2 b=some (.tup (xs.drop 1)) →
        ∃ W:Nat->Nat->List V->St->Hp->Prop,(∃ m,W 0 m [] [none,none] H2)∧i5 (AN K a b) (uP K 2 (eK (cc 0) (eK (cc 1) gNil))) tYes (n5 (uV fun i j=>V.bl (decide (i < j))) (dJ 0) (dJ 1)) W
          fun ys H'=>∀ D,H' D=none->∃ l zs bs,[V.ref D]=[V.ref l]∧a7 K (upd H' D (.lst ys)) l zs∧Paired AU zs bs∧Q (.bl (bs.all id)) (upd H' D (.lst ys)):=by
        intro b H2 s2 h2a h2b
        refine ⟨fun i m ys σ' H'=>m=(xs.drop 1).length - i∧i≤(xs.drop 1).length∧ys=(((xs.zip (xs.drop 1)).take i).map fun p=>zy p.1 p.2).map V.bl∧aA H2 H'∧∃ o1 o2,σ'=[o1,o2],⟨(xs.drop 1).length,by simp,Nat.zero_le _,by simp,aA.refl _,none,none,rfl⟩,?_⟩
        rintro i m ys σ' H' ⟨rfl,hi,rfl,sH,o1,o2,rfl⟩
        have ha':=sH _ _ h2a
        have hb':=sH _ _ h2b
        refine ⟨bnd _ (by simp; omega),?_⟩
        by_cases hlt:i < (xs.drop 1).length
        ·have hlt1:i < xs.length:=by rw [List.length_drop] at hlt; omega
         refine .inr ⟨⟨xs,xs.drop 1,xs[i],(xs.drop 1)[i],bg.of ha',bg.of hb',by simp [hlt1],by rw [List.getElem?_eq_getElem hlt]⟩,fun v H3 hv=>?_⟩
         obtain ⟨T,x,y,hx,hy,hT,rfl,rfl⟩:=hv
         have ex:=hx xs (bg.of ha')
         have ey:=hy (xs.drop 1) (bg.of hb')
         obtain ⟨n,rfl⟩:=hint x (List.mem_of_getElem? ex)
         obtain ⟨k,rfl⟩:=hint y (List.mem_of_mem_drop (List.mem_of_getElem? ey))
         refine ⟨T,_,rfl,bg.of ag,rfl,_,_,rfl,_,_,rfl,rfl,?_⟩
         dsimp only [tYes]
         refine cf ⟨_,rfl,_,rfl,n,k,rfl,rfl,(xs.drop 1).length - (i + 1),by omega,rfl,hlt,?_,fun c u e=>?_,_,_,rfl⟩
         ·have ez:(xs.zip (xs.drop 1))[i]?=some (V.int n,V.int k):=by
           rw [List.getElem?_zip_eq_some]
           exact ⟨ex,ey⟩
          have e2:(xs.zip (xs.drop 1)).take (i + 1)=(xs.zip (xs.drop 1)).take i++[(V.int n,V.int k)]:=by
           rw [List.take_add_one,ez]; rfl
          rw [e2]
          simp [zy]
         ·rw [ar (au (sH _ _ e) hT)]
          exact sH _ _ e
        ·have ei:i=(xs.drop 1).length:=by omega
         subst ei
         refine .inl ⟨⟨xs,xs.drop 1,bg.of ha',bg.of hb',.inr (Nat.le_refl _)⟩,fun D' hD'=>?_⟩
         have et:(xs.zip (xs.drop 1)).take (xs.drop 1).length=xs.zip (xs.drop 1):=by
          apply List.take_of_length_le
          rw [List.length_zip]
          exact Nat.min_le_right _ _
         rw [et]
         refine ⟨D',_,(xs.zip (xs.drop 1)).map fun p=>zy p.1 p.2,rfl,a7.of ag,oC _,?_⟩
         have er:((xs.zip (xs.drop 1)).map fun p=>zy p.1 p.2).all id=dX xs:=by rw [List.all_map]; rfl
         rw [er]
         refine q _ fun c u e=>?_
         have e1:=sH _ _ (s2 _ _ e)
         rw [ar (au e1 hD')]
         exact e1
       refine ⟨_,rfl,_,rfl,1,rfl,a,xs,rfl,bg.of ha1,fun e=>?_,fun p hpn=>?_⟩
       ·rw [z9] at e
        exact ⟨a,a,xs,xs.drop 1,rfl,bg.of ha1,bg.of (by rw [e]; exact ha1),key a H1 sD ha1 (by rw [e]; exact ha1)⟩
       ·rw [z9]
        have np:a≠p:=au ha1 hpn
        exact ⟨a,p,xs,xs.drop 1,rfl,bg.of (by rw [ar np]; exact ha1),bg.of ag,key p _ (fun c u e=>by rw [ar (au (sD _ _ e) hpn)]; exact sD _ _ e) (by rw [ar np]; exact ha1) ag⟩
abbrev x5:Stmt:=(aY 20)
theorem PX.same {H H':Hp}{x:V}{o:Option (List V)}(h:PX H x o)(s:aA H H'):PX H' x o:=by
 cases h with
 | no th n=>exact .no (th.same s) n
 | tup e l h=>exact .tup (s _ _ e) l fun y hy=>let ⟨T,t⟩:=h y hy; ⟨T,t.same s⟩
inductive TmX (p:Int)(H:Hp):V->Bool->Prop where
 | no {x:V}{T:String}:Th H x T->T ≠ "tuple"->TmX p H x false
 | odd {a:Addr}{xs:List V}:H a=some (.tup xs)->xs.length≠2->TmX p H (.ref a) false
 | two {a:Addr}{y z:V}{o:Option (List V)}{o2:Option (V × V)}:H a=some (.tup [y,z])->PX H y o->TX H z o2->TmX p H (.ref a) (iG o&&uC p o2)
theorem TmX.same {p:Int}{H H':Hp}{x:V}{b:Bool}(h:TmX p H x b)(s:aA H H'):TmX p H' x b:=by
 cases h with
 | no th n=>exact .no (th.same s) n
 | odd e n=>exact .odd (s _ _ e) n
 | two e h1 h2=>exact .two (s _ _ e) (h1.same s) (h2.same s)
def vZ (C:Addr):Sp:=fun vs H Q _=>∃ (s dx:Addr)(p:Int)(x:V)(b:Bool),vs=[.ref s,x]∧H s=some (.ins C dx (eC p))∧FP p∧TmX p H x b∧∀ H',aA H H'->Q (.bl b) H'
theorem yi:FnScope ["field","thing"] ["field","thing"] (ao x5):=dB (by decide +kernel)
theorem wR {f fp fi C:Addr}{fd fdp fdi:FuncData}(F:Fun K "is_term" "is_term" x5 f fd)(c:FieldK K mg C)(m_isinstance:mg "isinstance"=none)(m_tuple:mg "tuple"=none)(m_len:mg "len"=none)
 (FP':FnOk P w K mg base (bh P w) 3 fp fdp ["thing"] spProduct)(bP:L2.ay K fdp ["thing"] [])(mP:mg "is_product"=some (.ref fp))(kP:keepIn K (.ref fp)=true)
 (FI:FnOk P w K mg base (bh P w) 2 fi fdi ["self","thing"] (iw C))(bI:L2.ay K fdi ["self","thing"] [])(mI:L2.Meth K C "is_number" fi):FnOk P w K mg base (bh P w) 4 f fd ["field","thing"] (vZ C):=by
 refine F.okN yi (fun vs H Q E h=>?_) (fun cdv A outer s H vs Q E hr h=>?_)
 ·obtain ⟨s,dx,p,x,b,rfl,_⟩:=h
  rfl
 ·obtain ⟨s0,dx,p,x,b,rfl,hs,hp,tx,q⟩:=h
  have hr3:Room 3 _:=hr.mono (by decide)
  have hr2:Room 2 _:=hr.mono (by decide)
  refine ⟨_,aq (az (c8 (aH bx (by rfl) m_isinstance (by rfl) (@aj _ _ _ _ _ (pv 1) (@aj _ _ _ _ _ (eu (by rfl) m_tuple (by rfl) (show aC (.ty "tuple") (.type "tuple") from rfl)) af rfl) rfl))
   (c8 (@bp _ _ _ _ _ _ _ _ cx (aH bD (by rfl) m_len PySem.boot_len (@aj _ _ _ _ _ (pv 1) af rfl)) ah (ax _))
   (c8 (av FP' hr3 (by rfl) mP kP bP .nil ae (@aj _ _ _ _ _ (@aK _ _ _ _ _ _ _ aS (pv 1) ah (fun _ _=>rfl)) af rfl))
   (fj (lH (pv 0) c.cl mI FI hr2 bI .nil ae (@aj _ _ _ _ _ (@aK _ _ _ _ _ _ _ aS (pv 1) ah (fun _ _=>rfl)) af rfl))))))),?_⟩
  cases tx with
  | @no x T th ne =>
    refine ⟨_,rfl,x,.ty "tuple",_,_,_,rfl,rfl,th.ty,th.isTup,_,rfl,?_⟩
    rw [decide_eq_false ne]
    exact cq (q _ (aA.refl _))
  | @odd a xs ha hl =>
    refine ⟨_,rfl,.ref a,.ty "tuple",_,_,_,rfl,rfl,.of (.tup ha),rfl,_,rfl,cf ?_⟩
    refine ⟨_,rfl,a,_,rfl,.inr (bg.of ha),rfl,_,rfl,?_⟩
    refine bF (fun h=>absurd h (by simp; omega)) (fun h=>?_)
    exact q _ (aA.refl _)
  | @two a y z o o2 ha hy hz =>
    refine ⟨_,rfl,.ref a,.ty "tuple",_,_,_,rfl,rfl,.of (.tup ha),rfl,_,rfl,cf ?_⟩
    refine ⟨_,rfl,a,_,rfl,.inr (bg.of ha),rfl,_,rfl,cf ?_⟩
    refine ⟨_,rfl,a,_,0,y,rfl,rfl,bg.of ha,rfl,y,o,rfl,hy,fun H' sH=>⟨_,rfl,?_⟩⟩
    have hs':=sH _ _ hs
    have ha':=sH _ _ ha
    cases e:iG o with
    | false =>
      rw [e,Bool.false_and] at q
      exact cq (q _ sH)
    | true =>
      rw [e,Bool.true_and] at q
      refine cf ⟨_,rfl,s0,dx,_,rfl,hs',rfl,_,rfl,a,_,1,z,rfl,rfl,bg.of ha',rfl,s0,dx,p,z,o2,rfl,hs',hp,hz.same sH,q _ sH⟩
abbrev nN:Stmt:=(aY 21)
abbrev nH:Stmt:=(aY 22)
def j9 (C:Addr):Sp:=fun vs H Q _=>∃ (s dx:Addr)(p:Int)(x:V),vs=[.ref s,x]∧H s=some (.ins C dx (eC p))∧FP p ∧
 ((x = .non∧∀ l,H l=none->Q (.ref l) (upd H l (.lst [])))∨∃ l ys,x = .ref l∧H l=some (.lst ys)∧ys.length < 4000∧(∀ y∈ys,TmX p H y true)∧∀ H',aA H H'->Q (.ref l) H')
def spPlaceOf:Sp:=fun vs H Q _=>∃ (a b:Addr)(z:V)(xs:List V),vs=[.ref a]∧H a=some (.tup [.ref b,z])∧H b=some (.tup xs)∧∀ t,H t=none->Q (.ref t) (upd H t (.tup [.int xs.length,.ref b]))
theorem gh:FnScope ["field","terms","number","thing"] ["field","terms"] (ao nN):=dB (by decide +kernel)
theorem sv:FnScope ["term"] ["term"] (ao nH):=dB (by decide +kernel)
theorem og {f:Addr}{fd:FuncData}(F:Fun K "place_of_term" "place_of_term" nH f fd)(m_len:mg "len"=none):FnOk P w K mg base (bh P w) 1 f fd ["term"] spPlaceOf:=by
 refine F.okN sv (fun vs H Q E h=>?_) (fun cdv A outer s H vs Q E hr h=>?_)
 ·obtain ⟨a,b,z,xs,rfl,_⟩:=h
  rfl
 ·obtain ⟨a,b,z,xs,rfl,ha,hb,q⟩:=h
  refine ⟨_,(aq (az (@bK _ _ _ _ _ (@aj _ _ _ _ _ (aH bD (by rfl) m_len PySem.boot_len (@aj _ _ _ _ _ (@aK _ _ _ _ _ _ _ aS (pv 0) ah (fun _ _=>rfl)) af rfl)) (@aj _ _ _ _ _ (@aK _ _ _ _ _ _ _ aS (pv 0) ah (fun _ _=>rfl)) af rfl) rfl)))),?_⟩
  refine ⟨_,rfl,a,_,0,_,rfl,rfl,bg.of ha,rfl,b,xs,rfl,.inr (bg.of hb),_,rfl,a,_,0,_,rfl,rfl,bg.of ha,rfl,f9,fun t ht=>q t ht⟩
theorem oN {f ft C:Addr}{fd fdt:FuncData}(F:Fun K "checked_terms" "checked_terms" nN f fd)(m_isinstance:mg "isinstance"=none)(m_list:mg "list"=none)(m_enumerate:mg "enumerate"=none)
 (FT:FnOk P w K mg base (bh P w) 4 ft fdt ["field","thing"] (vZ C))(bT:L2.ay K fdt ["field","thing"] [])(mT:mg "is_term"=some (.ref ft))(kT:keepIn K (.ref ft)=true):FnOk P w K mg base (bh P w) 5 f fd ["field","terms"] (j9 C):=by
 refine F.okN gh (fun vs H Q E h=>?_) (fun cdv A outer s H vs Q E hr h=>?_)
 ·obtain ⟨s,dx,p,x,rfl,_⟩:=h
  rfl
 ·obtain ⟨s0,dx,p,x,rfl,hs,hp,h⟩:=h
  have hr4:Room 4 _:=hr.mono (by decide)
  refine ⟨_,(ai (bt (@aE _ _ _ _ _ _ _ _ yw (pv 1) zr (ax _)) (aq (az (@bf _ _ _ _ af))) aO)
   (ai (bt (cz (c7 (aH bx (by rfl) m_isinstance (by rfl) (@aj _ _ _ _ _ (pv 1) (@aj _ _ _ _ _ (eu (by rfl) m_list (by rfl) (show aC (.ty "list") (.type "list") from rfl)) af rfl) rfl)))) (aq (nA)) aO)
   (ai (dS PassesOwn.never rfl (wY (pv 1) (by rfl) m_enumerate) (cH rfl (aN (aG (i:=2) gh.nd rfl (Or.inl rfl)) (aN (aG (i:=3) gh.nd rfl (Or.inl rfl)) b7)))
   (aq (bt (cz (c7 (av FT hr4 (by rfl) mT kT bT .nil ae (@aj _ _ _ _ _ (pv 0) (@aj _ _ _ _ _ (pv 3) af rfl) rfl)))) (aq (nA)) aO)))
   (aq (az (pv 1)))))),?_⟩
  rcases h with ⟨rfl,q⟩ | ⟨l,ys,rfl,hl,hlen,hys,q⟩
  ·refine ⟨_,rfl,rfl,_,rfl,?_⟩
   exact cf ⟨Nat.zero_le _,fun l hl=>q l hl⟩
  ·refine ⟨_,rfl,rfl,_,rfl,cq ?_⟩
   refine ⟨_,rfl,.ref l,.ty "list",_,_,_,rfl,rfl,.of (.lst hl),rfl,_,rfl,cq ?_⟩
   refine ⟨_,rfl,l,ys,rfl,a7.of hl,?_⟩
   refine ⟨fun i m σ' H'=>m=ys.length - i∧i≤ys.length∧aA H H'∧∃ o1 o2,σ'=[some (.ref s0),some (.ref l),o1,o2],⟨ys.length,by simp,Nat.zero_le _,aA.refl _,none,none,rfl⟩,?_⟩
   rintro i m σ' H' ⟨rfl,hi,sH,o1,o2,rfl⟩
   have hl':=sH _ _ hl
   by_cases hlt:i < ys.length
   ·refine .inr ⟨⟨ys,ys[i],a7.of hl',by simp [hlt]⟩,fun σ' H'=>i + 1≤ys.length∧aA H H'∧∃ o1 o2,σ'=[some (.ref s0),some (.ref l),o1,o2],?_,fun v H2 hv=>?_⟩
    ·rintro σ' H' ⟨h1,h2,h3⟩
     exact ⟨ys.length - (i + 1),by omega,rfl,h1,h2,h3⟩
    ·obtain ⟨T,y,hy,hT,rfl,rfl⟩:=hv
     have ey:=hy ys (a7.of hl')
     have s2:aA H (upd H' T (.tup [.int i,y])):=fun c u e=>by
      rw [ar (au (sH _ _ e) hT)]
      exact sH _ _ e
     have ty:=(hys y (List.mem_of_getElem? ey)).same s2
     refine ⟨T,_,rfl,bg.of ag,rfl,_,_,rfl,_,_,rfl,rfl,?_⟩
     refine ⟨_,rfl,_,rfl,s0,dx,p,y,true,rfl,s2 _ _ hs,hp,ty,fun H3 s3=>⟨_,rfl,cq ?_⟩⟩
     exact ⟨hlt,fun c u e=>s3 _ _ (s2 _ _ e),_,_,rfl⟩
   ·refine .inl ⟨⟨ys,a7.of hl',by omega⟩,?_⟩
    exact ⟨_,rfl,q _ sH⟩
end K05
namespace Srt
open PySem PySem.W PyProof.Rows
structure Pm (n:Nat)(r:Nat->Nat)(p:Array Nat):Prop where
 size:p.size=n
 lt:∀ k,k < n->p.getD k 0 < n
 ne:∀ k l,k < n->l < n->k≠l->r (p.getD k 0)≠r (p.getD l 0)
 perm:p.Perm (List.range n).toArray
section
variable {n:Nat}{r:Nat->Nat}
theorem Pm.nq {n:Nat}{r:Nat->Nat}{p:Array Nat}(P:Pm n r p)(k l:Nat)(hk:k < n)(hl:l < n)(h:k≠l):p.getD k 0≠p.getD l 0:=fun z=>P.ne k l hk hl h (by rw [z])
theorem getD_some {p:Array Nat}{k:Nat}(h:k < p.size):p[k]?=some (p.getD k 0):=by simp [Array.getD,h]
theorem nh (inj:∀ i j,i < n->j < n->i≠j->r i≠r j){p:Array Nat}(hp:p.Perm (List.range n).toArray):Pm n r p:=by
 have hl:p.toList.Perm (List.range n):=by simpa using hp.toList
 have hs:p.size=n:=by rw [← Array.length_toList,hl.length_eq,List.length_range]
 have hlt:∀ k,k < n->p.getD k 0 < n:=fun k hk=>by
  have hm:p.getD k 0∈p.toList:=by
   rw [show p.getD k 0=p[k]'(by omega) by simp [Array.getD,hs,hk]]
   exact Array.mem_toList_iff.mpr (Array.getElem_mem _)
  exact List.mem_range.mp (hl.mem_iff.mp hm)
 refine ⟨hs,hlt,fun k l hk hl' hne=>inj _ _ (hlt k hk) (hlt l hl') fun e=>hne ?_,hp⟩
 have nd:p.toList.Nodup:=hl.nodup_iff.mpr List.nodup_range
 have e1:p.toList[k]'(by simp; omega)=p.toList[l]'(by simp; omega):=by
  rw [show p.getD k 0=p[k]'(by omega) by simp [Array.getD,hs,hk],show p.getD l 0=p[l]'(by omega) by simp [Array.getD,hs,hl']] at e
  simpa using e
 have pw:=List.pairwise_iff_getElem.mp (show p.toList.Pairwise (· ≠ ·) from nd)
 rcases Nat.lt_trichotomy k l with z | z | z
 ·exact absurd e1 (pw k l _ _ z)
 ·exact z
 ·exact absurd e1.symm (pw l k _ _ z)
def Up (r:Nat->Nat)(p:Array Nat)(m:Nat):Prop:=∀ i j,i < j->j < m->r (p.getD i 0) < r (p.getD j 0)
def Dn (r:Nat->Nat)(p:Array Nat)(m:Nat):Prop:=∀ i j,i < j->j < m->r (p.getD j 0) < r (p.getD i 0)
theorem Up.succ {p:Array Nat}{m:Nat}(h:Up r p m)(h1:1≤m)(e:r (p.getD (m - 1) 0) < r (p.getD m 0)):Up r p (m + 1):=fun i j hij hj=>by
 by_cases z:j=m
 ·subst z
  by_cases z2:i=j - 1
  ·subst z2; exact e
  ·exact Nat.lt_trans (h i (j - 1) (by omega) (by omega)) e
 ·exact h i j hij (by omega)
theorem Dn.succ {p:Array Nat}{m:Nat}(h:Dn r p m)(h1:1≤m)(e:r (p.getD m 0) < r (p.getD (m - 1) 0)):Dn r p (m + 1):=fun i j hij hj=>by
 by_cases z:j=m
 ·subst z
  by_cases z2:i=j - 1
  ·subst z2; exact e
  ·exact Nat.lt_trans e (h i (j - 1) (by omega) (by omega))
 ·exact h i j hij (by omega)
theorem qJ {p:Array Nat}{m k:Nat}(hm:m≤p.size)(hk:k < p.size):(kas_rev p 0 m).getD k 0=if k < m then p.getD (m - 1 - k) 0 else p.getD k 0:=by
 have e:=getElem?_mirror_all (xs:=p) (i:=0) hm k
 have hs:(kas_rev p 0 m).size=p.size:=mirror_size _ _ _ _
 have e2:(kas_rev p 0 m)[k]?=some ((kas_rev p 0 m).getD k 0):=getD_some (by rw [hs]; exact hk)
 have e3:(kas_rev p 0 m)[k]?=if 0≤k∧k < m then p[0 + m - 1 - k]? else p[k]?:=e
 rw [e2] at e3
 by_cases h:k < m
 ·rw [if_pos ⟨Nat.zero_le _,h⟩,show 0 + m - 1 - k=m - 1 - k by omega,getD_some (by omega)] at e3
  rw [if_pos h]
  exact Option.some.inj e3
 ·rw [if_neg (fun z=>h z.2),getD_some hk] at e3
  rw [if_neg h]
  exact Option.some.inj e3
theorem Dn.rev {p:Array Nat}{m:Nat}(h:Dn r p m)(hm:m≤p.size):Up r (kas_rev p 0 m) m:=fun i j hij hj=>by
 rw [qJ hm (by omega),qJ hm (by omega),if_pos (by omega),if_pos hj]
 exact h _ _ (by omega) (by omega)
variable {cmp:Nat->Nat->(Bool->Shared->Prop)->Shared->Prop}{s:Shared}
theorem pJ (hc:∀ i j C,i < n->j < n->i≠j->C (decide (r i < r j)) s->cmp i j C s){p:Array Nat}(P:Pm n r p){Q:Nat->Shared->Prop}:∀ (f m:Nat),1≤m->m + f=n->Up r p m →
 (∀ m',m≤m'->m'≤n->Up r p m'->(m' < n->r (p.getD m' 0) < r (p.getD (m' - 1) 0))->Q m' s)->(kas_asc p f m).kasWp cmp Q s
 | 0,m,h1,hm,hu,hQ=>hQ m (Nat.le_refl _) (by omega) hu fun h=>by omega
 | f + 1,m,h1,hm,hu,hQ=>by
   refine hc _ _ _ (P.lt m (by omega)) (P.lt (m - 1) (by omega)) (P.nq m (m - 1) (by omega) (by omega) (by omega)) ?_
   show ((if decide (r (p.getD m 0) < r (p.getD (m - 1) 0))=true then KasT.ret m else kas_asc p f (m + 1)).kasWp cmp Q s)
   by_cases h:r (p.getD m 0) < r (p.getD (m - 1) 0)
   ·rw [if_pos (decide_eq_true h)]
    exact hQ m (Nat.le_refl _) (by omega) hu fun _=>h
   ·rw [if_neg (by simpa using h)]
    have ne:=P.ne m (m - 1) (by omega) (by omega) (by omega)
    exact pJ hc P f (m + 1) (by omega) (by omega) (hu.succ h1 (by omega)) fun m' h2=>hQ m' (by omega)
theorem qm (hc:∀ i j C,i < n->j < n->i≠j->C (decide (r i < r j)) s->cmp i j C s){p:Array Nat}(P:Pm n r p){Q:Array Nat × Nat × Nat->Shared->Prop}:∀ (f m:Nat),1≤m->m + f=n->Dn r p m →
 (∀ m',m≤m'->m'≤n->Dn r p m'->Q (p,m',0) s)->(kas_desc f p m 0).kasWp cmp Q s
 | 0,m,h1,hm,hu,hQ=>hQ m (Nat.le_refl _) (by omega) hu
 | f + 1,m,h1,hm,hu,hQ=>by
   refine hc _ _ _ (P.lt m (by omega)) (P.lt (m - 1) (by omega)) (P.nq m (m - 1) (by omega) (by omega) (by omega)) ?_
   by_cases h:r (p.getD m 0) < r (p.getD (m - 1) 0)
   ·rw [decide_eq_true h]
    exact qm hc P f (m + 1) (by omega) (by omega) (hu.succ h1 h) fun m' h2=>hQ m' (by omega)
   ·rw [decide_eq_false h]
    refine hc _ _ _ (P.lt (m - 1) (by omega)) (P.lt m (by omega)) (P.nq (m - 1) m (by omega) (by omega) (by omega)) ?_
    have ne:=P.ne m (m - 1) (by omega) (by omega) (by omega)
    rw [decide_eq_true (show r (p.getD (m - 1) 0) < r (p.getD m 0) by omega)]
    exact hQ m (Nat.le_refl _) (by omega) hu
theorem uG (inj:∀ i j,i < n->j < n->i≠j->r i≠r j)(hc:∀ i j C,i < n->j < n->i≠j->C (decide (r i < r j)) s->cmp i j C s){p:Array Nat}(P:Pm n r p){Q:Nat × Array Nat->Shared->Prop}{m:Nat}(h1:1≤m)(hm:m≤n)(hd:Dn r p m)
 (hQ:∀ m' p',m'≤n->1≤m'->Pm n r p'->Up r p' m'->Q (m',p') s):(kas_tail3 m n p).kasWp cmp Q s:=by
 unfold kas_tail3
 rw [KasT.kasWp_bind]
 have P':Pm n r (kas_rev p 0 m):=nh inj ((mirror_perm _ _ _ _).trans P.perm)
 exact pJ hc P' (n - m) m h1 (by omega) (hd.rev (by rw [P.size]; exact hm)) fun m' h2 h3 h4 _=>hQ m' _ h3 (by omega) P' h4
theorem ug (inj:∀ i j,i < n->j < n->i≠j->r i≠r j)(hc:∀ i j C,i < n->j < n->i≠j->C (decide (r i < r j)) s->cmp i j C s)(h0:1≤n){p:Array Nat}(P:Pm n r p){Q:Nat × Array Nat->Shared->Prop}
 (hQ:∀ m' p',m'≤n->1≤m'->Pm n r p'->Up r p' m'->Q (m',p') s):(kas_count n p).kasWp cmp Q s:=by
 unfold kas_count
 rw [KasT.kasWp_bind]
 refine pJ hc P (n - 1) 1 (Nat.le_refl _) (by omega) (fun i j hij hj=>by omega) fun m h1 h2 h3 h4=>?_
 by_cases e:m=n
 ·subst e
  rw [if_pos (by simp)]
  exact hQ _ _ (Nat.le_refl _) h1 P h3
 ·rw [if_neg (by simpa using e)]
  by_cases h5:m > 1
  ·rw [if_pos h5]
   refine hc _ _ _ (P.lt 0 (by omega)) (P.lt (m - 1) (by omega)) (P.nq 0 (m - 1) (by omega) (by omega) (by omega)) ?_
   rw [decide_eq_true (h3 0 (m - 1) (by omega) (by omega))]
   exact hQ _ _ h2 h1 P h3
  ·rw [if_neg h5]
   have e1:m=1:=by omega
   subst e1
   unfold kas_descPart
   rw [KasT.kasWp_bind]
   have d2:Dn r p (1 + 1):=Dn.succ (fun i j hij hj=>by omega) (Nat.le_refl _) (h4 (by omega))
   refine qm hc P (n - (1 + 1)) (1 + 1) (by omega) (by omega) d2 fun m' h6 h7 h8=>?_
   show ((if 0 > 0 then _ else kas_tail3 m' n p).kasWp cmp Q s)
   rw [if_neg (by omega)]
   exact uG inj hc P (by omega) h7 h8 hQ
theorem i9 (hc:∀ i j C,i < n->j < n->i≠j->C (decide (r i < r j)) s->cmp i j C s){p:Array Nat}(P:Pm n r p){Q:Nat->Shared->Prop}{k:Nat}(hk:k < n)(hu:Up r p k):∀ (f l q:Nat),l≤q->q≤k->q - l≤f->(∀ j,j < l->r (p.getD j 0) < r (p.getD k 0))->(∀ j,q≤j->j < k->r (p.getD k 0) < r (p.getD j 0)) →
 (∀ l',l'≤k->(∀ j,j < l'->r (p.getD j 0) < r (p.getD k 0))->(∀ j,l'≤j->j < k->r (p.getD k 0) < r (p.getD j 0))->Q l' s)->(kas_place p k f l q).kasWp cmp Q s
 | 0,l,q,h1,h2,h3,h4,h5,hQ=>hQ l (by omega) h4 fun j h6 h7=>h5 j (by omega) h7
 | f + 1,l,q,h1,h2,h3,h4,h5,hQ=>by
   unfold kas_place
   by_cases h:l ≥ q
   ·rw [if_pos h]
    exact hQ l (by omega) h4 fun j h6 h7=>h5 j (by omega) h7
   ·rw [if_neg h]
    refine hc _ _ _ (P.lt k hk) (P.lt ((l + q) / 2) (by omega)) (P.nq k ((l + q) / 2) hk (by omega) (by omega)) ?_
    have ne:=P.ne k ((l + q) / 2) hk (by omega) (by omega)
    by_cases z:r (p.getD k 0) < r (p.getD ((l + q) / 2) 0)
    ·rw [decide_eq_true z]
     refine i9 hc P hk hu f l ((l + q) / 2) (by omega) (by omega) (by omega) h4 (fun j h6 h7=>?_) hQ
     by_cases e:j=(l + q) / 2
     ·subst e; exact z
     ·exact Nat.lt_trans z (hu _ _ (by omega) h7)
    ·rw [decide_eq_false z]
     refine i9 hc P hk hu f ((l + q) / 2 + 1) q (by omega) h2 (by omega) (fun j h6=>?_) h5 hQ
     by_cases e:j=(l + q) / 2
     ·subst e; omega
     ·have:=hu j ((l + q) / 2) (by omega) (by omega)
      omega
theorem qU {p:Array Nat}{k l j:Nat}(hk:k < p.size)(hl:l≤k)(hj:j < p.size):(bubble p k (k - l)).getD j 0=if j=l then p.getD k 0 else if l < j∧j≤k then p.getD (j - 1) 0 else p.getD j 0:=by
 have e:=getElem?_bubble hk (k - l) (by omega) j
 rw [show k - (k - l)=l by omega,getD_some (by rw [bubble_size]; exact hj)] at e
 by_cases h1:j=l
 ·rw [if_pos h1,getD_some hk] at e
  rw [if_pos h1]
  exact Option.some.inj e
 ·rw [if_neg h1] at e ⊢
  by_cases h2:l < j∧j≤k
  ·rw [if_pos h2,getD_some (by omega)] at e
   rw [if_pos h2]
   exact Option.some.inj e
  ·rw [if_neg h2,getD_some hj] at e
   rw [if_neg h2]
   exact Option.some.inj e
theorem uF (inj:∀ i j,i < n->j < n->i≠j->r i≠r j)(hc:∀ i j C,i < n->j < n->i≠j->C (decide (r i < r j)) s->cmp i j C s){Q:Array Nat->Shared->Prop}(hQ:∀ p',Pm n r p'->Up r p' n->Q p' s):∀ (f:Nat)(p:Array Nat)(k:Nat),Pm n r p->k + f=n->Up r p k->(kas_bin f p k).kasWp cmp Q s
 | 0,p,k,P,hk,hu=>hQ p P (by rw [← hk]; exact hu)
 | f + 1,p,k,P,hk,hu=>by
   unfold kas_bin
   rw [KasT.kasWp_bind]
   refine i9 hc P (by omega) hu k 0 k (Nat.zero_le _) (Nat.le_refl _) (by omega) (fun j h=>by omega) (fun j h1 h2=>by omega) fun l h1 h2 h3=>?_
   have P':Pm n r (bubble p k (k - l)):=nh inj ((bubble_perm _ _ _).trans P.perm)
   refine uF inj hc hQ f _ (k + 1) P' (by omega) fun i j hij hj=>?_
   have sz:=P.size
   rw [qU (by omega) h1 (by omega),qU (by omega) h1 (by omega)]
   by_cases e1:i=l
   ·rw [if_pos e1,if_neg (by omega),if_pos ⟨by omega,by omega⟩]
    exact h3 _ (by omega) (by omega)
   ·rw [if_neg e1]
    by_cases e2:j=l
    ·rw [if_pos e2,if_neg (by omega)]
     exact h2 _ (by omega)
    ·rw [if_neg e2]
     by_cases e3:l < j
     ·rw [if_pos (show l < j∧j≤k from ⟨e3,by omega⟩)]
      by_cases e4:l < i
      ·rw [if_pos ⟨e4,by omega⟩]
       exact hu _ _ (by omega) (by omega)
      ·rw [if_neg (by omega)]
       exact hu _ _ (by omega) (by omega)
     ·rw [if_neg (by omega),if_neg (by omega)]
      exact hu _ _ hij (by omega)
theorem qy (inj:∀ i j,i < n->j < n->i≠j->r i≠r j)(hc:∀ i j C,i < n->j < n->i≠j->C (decide (r i < r j)) s->cmp i j C s)(h0:1≤n){Q:Array Nat->Shared->Prop}(hQ:∀ p',Pm n r p'->Up r p' n->Q p' s):(kas_sort n).kasWp cmp Q s:=by
 unfold kas_sort
 rw [KasT.kasWp_bind]
 refine ug inj hc h0 (nh inj (Array.Perm.refl _)) fun m p h1 h2 P hu=>?_
 show ((if m < n then kas_bin (n - max m 1) p (max m 1) else KasT.ret p).kasWp cmp Q s)
 by_cases h:m < n
 ·rw [if_pos h,show max m 1=m by omega]
  exact uF inj hc hQ _ _ _ P (by omega) hu
 ·rw [if_neg h]
  have e:m=n:=by omega
  subst e
  exact hQ p P hu
end
section
variable {prog:Program}{w:World}{A:Around}{E:Value->Shared->Prop}{s:Shared}
def kF (prog:Program)(w:World)(A:Around)(ks:List Value)(r:Nat->Nat)(s:Shared):Prop :=
 ∃ κ,(∀ Q:SortKind->Shared->Prop,Q κ s->wpAny (model prog w) A (keyKind' ks.toArray) Q (fun _ _=>False) s)∧∀ i j C,i < ks.length->j < ks.length->i≠j->C (decide (r i < r j)) s->kas_ask prog w A κ ks i j C s
def b9 (vs:List Value)(p:Array Nat):List Value:=p.toList.map fun i=>vs.getD i Value.none
theorem ml (vs:List Value):b9 vs (List.range vs.length).toArray=vs:=by
 unfold b9
 apply List.ext_getElem
 ·simp
 ·intro i h1 h2
  simp [h2]
theorem sk {vs:List Value}{r:Nat->Nat}{p:Array Nat}(P:Pm vs.length r p):(b9 vs p).length=vs.length:=by
 unfold b9
 rw [List.length_map,Array.length_toList,P.size]
theorem cn {n:Nat}(h:n < 64):n≤sizeLine:=by rw [sizeLine_eq]; omega
def vY (a:Addr)(h h':Heap):Prop:=∀ b o,b≠a->h.get? b=some o->h'.get? b=some o
theorem wm {h:Heap}{a:Addr}{o1 o2:Obj}{g:Obj->Obj}:vY a h (((h.update a g).push o1).push o2):=fun b o hb e=>by
 refine Heap.get?_push_of_some _ (Heap.get?_push_of_some _ ?_)
 rw [Heap.get?_update_ne _ _ _ _ hb]; exact e
theorem lK {a:Addr}{vs:List Value}{n:Nat}{r:Nat->Nat}{P:PySem.Fin->Shared->Prop}(ho:s.heap.get? a=some (seqObj "list" vs.toArray n))(h64:vs.length < 64)
 (inj:∀ i j,i < vs.length->j < vs.length->i≠j->r i≠r j)
 (hk:2≤vs.length->∀ h',vY a s.heap h'->kF prog w A vs r { s with heap:=h' })
 (hP:∀ h' p c,vY a s.heap h'->h'.get? a=some (seqObj "list" (b9 vs p).toArray c)->Pm vs.length r p->Up r p vs.length->P (.done (.ret .none)) { s with heap:=h' }):
 wpAny (model prog w) A (Builtin.«list.sort» ⟨[.ref a],[]⟩) P E s:=by
 have ha:a < s.heap.objs.size:=Heap.lt_size ho
 obtain ⟨e1,ho1⟩:∃ e1,(s.heap.update a (Obj.mapSeq fun _=>(#[]:Array Value))).get? a=some (seqObj "list" #[] e1):=⟨_,get?_update_seq ho fun _=>#[]⟩
 rw [list_sort_plain]
 refine wpAny_bind (listItems_at ho rfl (wpAny_bind (listUpdate_at ho rfl (wpAny_bind (seqEpoch_at ho1 rfl (wpAny_bind (wpAny_newTuple (wpAny_bind (wpAny_newList ?_ (Nat.zero_le _))) (cn h64))))) (by rw [List.size_toArray]; exact cn h64) (Nat.zero_le _))))
 refine wpAny_holding (?_:wpAny (model prog w) A _ P E { s with heap:=((s.heap.update a (Obj.mapSeq fun _=>(#[]:Array Value))).push (seqObj "tuple" vs.toArray 0)).push (seqObj "list" #[] 0) })
 have kp:vY a s.heap (((s.heap.update a (Obj.mapSeq fun _=>(#[]:Array Value))).push (seqObj "tuple" vs.toArray 0)).push (seqObj "list" #[] 0)):=wm
 have ho6:(((s.heap.update a (Obj.mapSeq fun _=>(#[]:Array Value))).push (seqObj "tuple" vs.toArray 0)).push (seqObj "list" #[] 0)).get? a=some (seqObj "list" #[] e1):=Heap.get?_push_of_some _ (Heap.get?_push_of_some _ ho1)
 generalize ((s.heap.update a (Obj.mapSeq fun _=>(#[]:Array Value))).push (seqObj "tuple" vs.toArray 0)).push (seqObj "list" #[] 0)=h6 at kp ho6 ⊢
 have fin:∀ p,Pm vs.length r p->Up r p vs.length->P (.done (.ret .none)) { s with heap:=h6.update a (Obj.mapSeq fun _=>(b9 vs p).toArray) }:=fun p pm up=>by
  obtain ⟨c2,hc2⟩:∃ c2,(h6.update a (Obj.mapSeq fun _=>(b9 vs p).toArray)).get? a=some (seqObj "list" (b9 vs p).toArray c2):=⟨_,get?_update_seq ho6 fun _=>(b9 vs p).toArray⟩
  exact hP _ p c2 (fun b o hb e=>by rw [Heap.get?_update_ne _ _ _ _ hb]; exact kp b o hb e) hc2 pm up
 have last:∀ p,Pm vs.length r p->(List.toArray (b9 vs p)).size≤sizeLine:=fun p pm=>by rw [List.size_toArray,sk pm]; exact cn h64
 dsimp only
 by_cases h2:vs.toArray.size < 2
 ·have small:vs.length < 2:=by simpa using h2
  rw [if_pos h2,if_pos h2]
  refine wpAny_bind (wpAny_pure ?_)
  rw [StateT.run_pure]
  refine wpAny_bind (wpAny_pure ?_)
  have hm:(arrOf (SortSt.mk' general' (vs.toArray.zip vs.toArray) #[] 7 none)).map (·.2)=(b9 vs (List.range vs.length).toArray).toArray:=by
   rw [ml]
   show (vs.toArray.zip vs.toArray).map (·.2)=vs.toArray
   apply Array.toList_inj.mp
   simp [List.map_snd_zip]
  have P0:Pm vs.length r (List.range vs.length).toArray:=nh inj (Array.Perm.refl _)
  have U0:Up r (List.range vs.length).toArray vs.length:=fun i j hij hj=>by omega
  dsimp only
  rw [hm]
  refine wpAny_bind (seqEpoch_at ho6 rfl (wpAny_bind (listUpdate_at ho6 rfl ?_ (Nat.zero_le _) (Nat.le_succ_of_le (last _ P0)))))
  simp only [bne_self_eq_false,Bool.false_eq_true,if_false]
  exact wpAny_pure (fin _ P0 U0)
 ·have big:2≤vs.length:=by simpa using h2
  rw [if_neg h2,if_neg h2]
  obtain ⟨κ,hkind,hask⟩:=hk big h6 kp
  refine wpAny_bind (wpAny_mono (hkind (fun κ' s0=>(kas_sort vs.length).kasWp (kas_ask prog w A κ' vs) (fun p s'=>s'={ s with heap:=h6 }∧Pm vs.length r p∧Up r p vs.length) s0) (qy (n:=vs.length) (r:=r) inj hask (by omega) (Q:=fun p s'=>s'={ s with heap:=h6 }∧Pm vs.length r p∧Up r p vs.length) fun p pm up=>⟨rfl,pm,up⟩)) (fun κ' s0 hw=>?_) fun _ _ x=>x.elim)
  refine wpAny_bind (wpAny_mono (kat_run (κ:=κ') (Q:=fun st' s'=>∃ p:Array Nat,arrOf st'=p.map (kas_item (vs.toArray.zip vs.toArray))∧failedOf st'=none∧s'={ s with heap:=h6 }∧Pm vs.length r p∧Up r p vs.length) rfl big h64 (fun p' st' s' _ a2 a3 a4=>⟨p',a2,a3,a4⟩) hw) ?_ fun _ _ e=>e)
  rintro ⟨⟨⟩,st'⟩ s' ⟨p,har,hf,rfl,pm,up⟩
  dsimp only
  rw [kat_snds rfl har]
  refine wpAny_bind (seqEpoch_at ho6 rfl (wpAny_bind (listUpdate_at ho6 rfl ?_ (Nat.zero_le _) (Nat.le_succ_of_le (last _ pm)))))
  rw [hf]
  simp only [bne_self_eq_false,Bool.false_eq_true,if_false]
  exact wpAny_pure (fin p pm up)
theorem si {l:Addr}{vs:List Value}{r:Nat->Nat}{Q:Value->Shared->Prop}(hl:s.heap.IsList l vs.toArray)(h64:vs.length < 64)
 (inj:∀ i j,i < vs.length->j < vs.length->i≠j->r i≠r j)
 (hk:2≤vs.length->∀ h',(∀ b o,s.heap.get? b=some o->h'.get? b=some o)->kF prog w A.in1.in1 vs r { s with heap:=h' })
 (hQ:∀ h' D p c,(∀ b o,s.heap.get? b=some o->h'.get? b=some o)->s.heap.get? D=none->h'.get? D=some (seqObj "list" (b9 vs p).toArray c)->Pm vs.length r p->Up r p vs.length->Q (.ref D) { s with heap:=h' }):
 wpAny (model prog w) A (call (.builtin "sorted") [.ref l]) Q E s:=by
 refine Calls.call_function_entry kind_sorted plain_sorted entry_sorted (args_sorted1 _) ?_
 unfold Builtin.«sorted»
 refine wpAny_bind (m:=checkCount "sorted" 1 1 _) (wpAny_pure (wpAny_bind (collect_list hl (wpAny_bind (wpAny_newList ?_ (cn h64))) (cn h64))))
 have sz:((s.heap.push (seqObj "list" #[] 0)).update s.heap.objs.size (Obj.mapSeq (·++vs.toArray))).objs.size=s.heap.objs.size + 1:=by rw [Heap.size_update]; exact size_push' _ _
 have at1:(((s.heap.push (seqObj "list" #[] 0)).update s.heap.objs.size (Obj.mapSeq (·++vs.toArray))).push (seqObj "list" vs.toArray 0)).get? (s.heap.objs.size + 1)=some (seqObj "list" vs.toArray 0):=by
  rw [← sz]; exact Heap.get?_push_size _ rfl
 have old:∀ b o,s.heap.get? b=some o->(((s.heap.push (seqObj "list" #[] 0)).update s.heap.objs.size (Obj.mapSeq (·++vs.toArray))).push (seqObj "list" vs.toArray 0)).get? b=some o:=fun b o q=>by
  have lt:b < s.heap.objs.size:=Heap.lt_size q
  refine Heap.get?_push_of_some _ ?_
  rw [Heap.get?_update_ne _ _ _ _ (Nat.ne_of_lt lt)]; exact Heap.get?_push_of_some _ q
 have new:s.heap.get? (s.heap.objs.size + 1)=none:=Heap.get?_none_of_le (Nat.le_succ _)
 show wpAny _ _ _ _ _ { s with heap:=((s.heap.push (seqObj "list" #[] 0)).update s.heap.objs.size (Obj.mapSeq (·++vs.toArray))).push (seqObj "list" vs.toArray 0) }
 rw [sz]
 generalize ((s.heap.push (seqObj "list" #[] 0)).update s.heap.objs.size (Obj.mapSeq (·++vs.toArray))).push (seqObj "list" vs.toArray 0)=h5 at at1 old ⊢
 have kp:∀ h',vY (s.heap.objs.size + 1) h5 h'->∀ b o,s.heap.get? b=some o->h'.get? b=some o:=fun h' k b o q=>k b o (fun z=>by rw [z,new] at q; cases q) (old b o q)
 refine wpAny_bind (wpAny_holding (wpAny_call_entry slot_list_sort ⟨_,at1,rfl⟩ entry_list_sort (lK (s:={ s with heap:=h5 }) (r:=r) at1 h64 inj (fun b h' k=>hk b h' (kp h' k)) fun h' p c k e pm up=>⟨_,rfl,?_⟩) (args_list_sort _)))
 exact wpAny_pure ⟨_,rfl,hQ h' _ p c (kp h' k) new e pm up⟩
end
open L2
abbrev Ky:=Int × List Int
def jt (a b:Ky):Bool:=if a.1=b.1 then HT.cb a.2 b.2 else decide (a.1 < b.1)
theorem jf:∀ xs:List Int,HT.cb xs xs=false
 | []=>rfl
 | x :: xs=>by rw [HT.cS,if_pos rfl]; exact jf xs
theorem j5:∀ {xs ys zs:List Int},HT.cb xs ys=true->HT.cb ys zs=true->HT.cb xs zs=true
 | [],[],_,h,_=>by cases h
 | [],y :: ys,[],_,h=>by cases h
 | [],y :: ys,z :: zs,_,_=>rfl
 | x :: xs,[],_,h,_=>by cases h
 | x :: xs,y :: ys,[],_,h=>by cases h
 | x :: xs,y :: ys,z :: zs,h1,h2=>by
   rw [HT.cS] at h1 h2 ⊢
   by_cases e1:x=y
   ·rw [if_pos e1] at h1
    by_cases e2:y=z
    ·rw [if_pos e2] at h2
     rw [if_pos (e1.trans e2)]
     exact j5 h1 h2
    ·rw [if_neg e2] at h2
     rw [e1,if_neg e2]
     exact h2
   ·rw [if_neg e1] at h1
    have l1:=of_decide_eq_true h1
    by_cases e2:y=z
    ·rw [← e2,if_neg e1]
     exact h1
    ·rw [if_neg e2] at h2
     have l2:=of_decide_eq_true h2
     rw [if_neg (by omega)]
     exact decide_eq_true (by omega)
theorem kd:∀ {xs ys:List Int},xs≠ys->HT.cb xs ys=true∨HT.cb ys xs=true
 | [],[],h=>absurd rfl h
 | [],y :: ys,_=>.inl rfl
 | x :: xs,[],_=>.inr rfl
 | x :: xs,y :: ys,h=>by
   rw [HT.cS,HT.cS]
   by_cases e:x=y
   ·subst e
    rw [if_pos rfl,if_pos rfl]
    exact kd fun z=>h (by rw [z])
   ·rw [if_neg e,if_neg (Ne.symm e)]
    simp only [decide_eq_true_eq]
    omega
theorem jo (a:Ky):jt a a=false:=by unfold jt; rw [if_pos rfl]; exact jf _
theorem gE {a b c:Ky}(h1:jt a b=true)(h2:jt b c=true):jt a c=true:=by
 unfold jt at h1 h2 ⊢
 by_cases e1:a.1=b.1
 ·rw [if_pos e1] at h1
  by_cases e2:b.1=c.1
  ·rw [if_pos e2] at h2
   rw [if_pos (e1.trans e2)]
   exact j5 h1 h2
  ·rw [if_neg e2] at h2
   rw [e1,if_neg e2]
   exact h2
 ·rw [if_neg e1] at h1
  have l1:=of_decide_eq_true h1
  by_cases e2:b.1=c.1
  ·rw [← e2,if_neg e1]
   exact h1
  ·rw [if_neg e2] at h2
   have l2:=of_decide_eq_true h2
   rw [if_neg (by omega)]
   exact decide_eq_true (by omega)
theorem gu {a b:Ky}(h:a≠b):jt a b=true∨jt b a=true:=by
 unfold jt
 by_cases e:a.1=b.1
 ·rw [if_pos e,if_pos e.symm]
  exact kd fun z=>h (Prod.ext e z)
 ·rw [if_neg e,if_neg (Ne.symm e)]
  simp only [decide_eq_true_eq]
  omega
def bZ (ks:List Ky)(i:Nat):Ky:=ks.getD i (0,[])
def rk (ks:List Ky)(i:Nat):Nat:=(List.range ks.length).countP fun j=>jt (bZ ks j) (bZ ks i)
theorem j7 {α:Type}{p q:α->Bool}:∀ {l:List α},(∀ x∈l,p x=true->q x=true)->(∃ x∈l,q x=true∧p x=false)->l.countP p < l.countP q
 | [],_,⟨x,hx,_⟩=>by cases hx
 | a :: l,h,⟨x,hx,h1,h2⟩=>by
   have le:∀ l':List α,(∀ x∈l',p x=true->q x=true)->l'.countP p≤l'.countP q:=fun l' h'=>List.countP_mono_left h'
   rw [List.countP_cons,List.countP_cons]
   rcases List.mem_cons.mp hx with rfl | hx
   ·rw [if_pos h1,if_neg (by rw [h2]; exact Bool.false_ne_true)]
    have:=le l fun x hx=>h x (List.mem_cons_of_mem _ hx)
    omega
   ·have ih:=j7 (l:=l) (fun x hx=>h x (List.mem_cons_of_mem _ hx)) ⟨x,hx,h1,h2⟩
    have h0:=h a List.mem_cons_self
    cases e:p a with
    | false=>simp only [Bool.false_eq_true,if_false]; omega
    | true=>rw [h0 e]; simp only [if_true]; omega
theorem fA {ks:List Ky}{i j:Nat}(hi:i < ks.length)(h:jt (bZ ks i) (bZ ks j)=true):rk ks i < rk ks j :=
 j7 (fun l _ hl=>gE hl h) ⟨i,List.mem_range.mpr hi,h,jo _⟩
theorem uk {ks:List Ky}{i j:Nat}(hi:i < ks.length)(hj:j < ks.length):decide (rk ks i < rk ks j)=jt (bZ ks i) (bZ ks j):=by
 cases e:jt (bZ ks i) (bZ ks j) with
 | true=>exact decide_eq_true (fA hi e)
 | false =>
   refine decide_eq_false fun z=>?_
   by_cases k:bZ ks i=bZ ks j
   ·unfold rk at z
    rw [k] at z
    exact Nat.lt_irrefl _ z
   ·rcases gu k with h | h
    ·rw [e] at h; cases h
    ·exact Nat.lt_asymm z (fA hj h)
theorem v3 {ks:List Ky}(nd:ks.Nodup):∀ i j,i < ks.length->j < ks.length->i≠j->rk ks i≠rk ks j:=fun i j hi hj hne z=>by
 have k:bZ ks i≠bZ ks j:=fun e=>by
  have e':ks[i]=ks[j]:=by
   unfold bZ at e
   simpa [hi,hj] using e
  have pw:=List.pairwise_iff_getElem.mp (show ks.Pairwise (· ≠ ·) from nd)
  rcases Nat.lt_or_gt_of_ne hne with l | l
  ·exact pw i j _ _ l e'
  ·exact pw j i _ _ l e'.symm
 rcases gu k with h | h
 ·have:=fA hi h; omega
 ·have:=fA hj h; omega
def pT (K:Frag)(H:Hp)(x:V)(k:Ky):Prop:=∃ a b rest,x = .ref a∧bg K H a (.int k.1 :: .ref b :: rest)∧bg K H b (k.2.map V.int)
def cp (K:Frag)(H:Hp):List V->List Ky->Prop
 | [],[]=>True
 | x :: xs,k :: ks=>pT K H x k∧cp K H xs ks
 | _,_=>False
theorem cp.len {K:Frag}{H:Hp}:∀ {xs:List V}{ks:List Ky},cp K H xs ks->xs.length=ks.length
 | [],[],_=>rfl
 | _ :: _,_ :: _,⟨_,r⟩=>congrArg (· + 1) r.len
 | [],_ :: _,h=>h.elim
 | _ :: _,[],h=>h.elim
theorem cp.get {K:Frag}{H:Hp}:∀ {xs:List V}{ks:List Ky}{i:Nat}{x:V},cp K H xs ks->xs[i]?=some x->pT K H x (bZ ks i)
 | x :: xs,k :: ks,0,y,⟨h,_⟩,e=>by simp at e; subst e; exact h
 | x :: xs,k :: ks,i + 1,y,⟨_,r⟩,e=>by
   have:=r.get (i:=i) (x:=y) (by simpa using e)
   simpa [bZ] using this
 | [],[],i,y,_,e=>by simp at e
 | [],_ :: _,_,_,h,_=>h.elim
 | _ :: _,[],_,_,h,_=>h.elim
theorem eV {K:Frag}{H:Hp}:∀ ns:List Int,aV K H (ns.map D.int) (ns.map V.int)
 | []=>by unfold aV; rfl
 | n :: ns=>by unfold aV; exact ⟨_,_,rfl,by unfold aF; rfl,eV ns⟩
theorem vM (ns:List Int):iX (.tup (ns.map D.int))≤1:=by
 unfold iX
 have:∀ ms:List Int,dt (ms.map D.int)=0:=fun ms=>by
  induction ms with
  | nil=>unfold dt; rfl
  | cons m ms ih=>rw [List.map_cons]; unfold dt; rw [ih]; unfold iX; rfl
 rw [this]
 omega
theorem lV:∀ ns ms:List Int,cD (ns.map D.int) (ms.map D.int)=decide (ns=ms)
 | [],[]=>by unfold cD; simp
 | [],m :: ms=>by unfold cD; simp
 | n :: ns,[]=>by unfold cD; simp
 | n :: ns,m :: ms=>by
   rw [List.map_cons,List.map_cons]
   unfold cD
   rw [lV ns ms]
   unfold cT
   by_cases e:n=m
   ·subst e; simp
   ·simp [e]
section
variable {X:Cx}{pins:List (Addr × Obj)}{σ:L2.St}{H:Hp}{s:Shared}
theorem wy {A:Around}{x y:V}{u v:Value}{k j:Ky}{C:Bool->Shared->Prop}{E:Value->Shared->Prop}(I:Inv X pins σ H s)(hA:A.units + 2 < cLine)(hx:pT X.K H x k)(hy:pT X.K H y j)(rx:aC x u)(ry:aC y v)(ne:k≠j)(h:C (jt k j) s):
 wpAny (model X.prog X.w) A (keyLt' (tuples' true) u v) C E s:=by
 obtain ⟨a,b,rest,rfl,h1,h2⟩:=hx
 obtain ⟨a',b',rest',rfl,h1',h2'⟩:=hy
 cases (show u=Value.ref a from rx)
 cases (show v=Value.ref a' from ry)
 obtain ⟨its,r1,⟨o1,g1,_,n1,d1⟩,_⟩:=I.tuple h1
 obtain ⟨its',r1',⟨o1',g1',_,n1',d1'⟩,_⟩:=I.tuple h1'
 refine kat_lt g1 d1 g1' d1' ?_
 cases r1 with
 | cons q1 r1 =>
   cases r1 with
   | cons q2 r1 =>
     cases r1' with
     | cons q1' r1' =>
       cases r1' with
       | cons q2' r1' =>
         obtain ⟨t,rfl⟩:=q1
         obtain ⟨t',rfl⟩:=q1'
         rename_i w2 _ w2' _
         cases (show w2=Value.ref b from q2)
         cases (show w2'=Value.ref b' from q2')
         show KatLex _ _ _ _ _ _ ((Value.int k.1 t,Value.int j.1 t'):: (Value.ref b,Value.ref b'):: _) 0 s
         refine kat_cons (SeqAt.EqAt.int_int k.1 t j.1 t' X.prog X.w _ _ ?_)
         have klt_def:jt k j=if k.1=j.1 then HT.cb k.2 j.2 else decide (k.1 < j.1):=rfl
         refine kat_go (fun e=>kat_yes ?_) fun e=>kat_no ?_
         ·have e1:k.1=j.1:=by simpa using e
          have n2:k.2≠j.2:=fun z=>ne (Prod.ext e1 z)
          have dd:=(gq I 1 A (.tup (k.2.map D.int)) (.tup (j.2.map D.int)) (.ref b) (.ref b') (.ref b) (.ref b') (vM _) (by omega) (by unfold aF; exact ⟨b,_,rfl,h2,eV _⟩) (by unfold aF; exact ⟨b',_,rfl,h2',eV _⟩) rfl rfl).2.1
          have e2:cT (.tup (k.2.map D.int)) (.tup (j.2.map D.int))=false:=by unfold cT; rw [lV]; exact decide_eq_false n2
          rw [e2] at dd
          refine kat_cons (dd X.prog X.w _ _ (kat_no ?_))
          rw [klt_def,if_pos e1] at h
          obtain ⟨its2,p2,t2,_⟩:=I.tuple h2
          obtain ⟨its2',p2',t2',_⟩:=I.tuple h2'
          exact kat_one _ _ (HT.oJ t2 t2' (iI p2) (iI p2') (by omega) h)
         ·have e1:k.1≠j.1:=by simpa using e
          rw [klt_def,if_neg e1] at h
          exact oneLt_int h
theorem w9 (I:Inv X pins σ H s)(xs:List V):∀ (ks:List Ky)(us:List Value),cp X.K H xs ks->aI xs us->∃ fs:List Value,KatTups s.heap us fs∧fs.length=us.length∧∀ f∈fs,∃ i t,f=Value.int i t:=by
 induction xs with
 | nil =>
   intro ks us _ r
   cases r
   exact ⟨[],.nil,rfl,fun f hf=>by cases hf⟩
 | cons x xs ih =>
   intro ks us h r
   cases ks with
   | nil=>exact h.elim
   | cons k ks =>
     cases r with
     | cons rx rv =>
       rename_i u us
       obtain ⟨⟨a,b,rest,e,h1,_⟩,hr⟩:=h
       obtain ⟨fs,t,hl,hf⟩:=ih ks us hr rv
       subst e
       cases (show u=Value.ref a from rx)
       obtain ⟨its,r1,⟨o1,g1,c1,n1,d1⟩,_⟩:=I.tuple h1
       cases r1 with
       | cons q1 r1 =>
         obtain ⟨tk,rfl⟩:=q1
         refine ⟨Value.int k.1 tk :: fs,.cons g1 c1 d1 rfl t,by simp [hl],fun f hf'=>?_⟩
         rcases List.mem_cons.mp hf' with rfl | z
         ·exact ⟨_,_,rfl⟩
         ·exact hf f z
theorem ik {A:Around}{xs:List V}{ks:List Ky}{us:List Value}(I:Inv X pins σ H s)(hA:A.units + 2 < cLine)(hk:cp X.K H xs ks)(rv:aI xs us)(nd:ks.Nodup)(h2:2≤us.length):kF X.prog X.w A us (rk ks) s:=by
 obtain ⟨fs,t,hl,hf⟩:=w9 I xs ks us hk rv
 have len1:=hk.len
 have len2:=rv.length
 refine ⟨tuples' true,fun Q hq=>kat_kind (T:=Value.type "int") t (by omega) (fun v hv=>?_) (by decide) hq,fun i j C hi hj hne hc=>?_⟩
 ·obtain ⟨i,tk,rfl⟩:=hf v hv
  exact .now
 ·have gi:∃ x,xs[i]?=some x∧aC x (us.getD i .none):=by
   have hi':i < xs.length:=by omega
   obtain ⟨u,e,r⟩:=rv.get (i:=i) (x:=xs[i]) (by simp [hi'])
   refine ⟨xs[i],by simp [hi'],?_⟩
   rw [List.getD_eq_getElem?_getD,e]
   exact r
  have gj:∃ x,xs[j]?=some x∧aC x (us.getD j .none):=by
   have hj':j < xs.length:=by omega
   obtain ⟨u,e,r⟩:=rv.get (i:=j) (x:=xs[j]) (by simp [hj'])
   refine ⟨xs[j],by simp [hj'],?_⟩
   rw [List.getD_eq_getElem?_getD,e]
   exact r
  obtain ⟨x,ex,rx⟩:=gi
  obtain ⟨y,ey,ry⟩:=gj
  rw [uk (by omega) (by omega)] at hc
  have kne:bZ ks i≠bZ ks j:=fun z=>by
   have e':ks[i]'(by omega)=ks[j]'(by omega):=by
    unfold bZ at z
    simpa [show i < ks.length by omega,show j < ks.length by omega] using z
   have pw:=List.pairwise_iff_getElem.mp (show ks.Pairwise (· ≠ ·) from nd)
   rcases Nat.lt_or_gt_of_ne hne with l | l
   ·exact pw i j _ _ l e'
   ·exact pw j i _ _ l e'.symm
  exact wy I hA (hk.get ex) (hk.get ey) rx ry kne hc
end
section
variable {α:Type}
def jx (k:Ky)(x:α):List (Ky × α)->List (Ky × α)
 | []=>[(k,x)]
 | (j,y):: r=>if jt k j=true then (k,x):: (j,y):: r else (j,y):: jx k x r
def cw:List (Ky × α)->List (Ky × α)
 | []=>[]
 | (k,x):: r=>jx k x (cw r)
theorem gf (k:Ky)(x:α):∀ l:List (Ky × α),(jx k x l).Perm ((k,x):: l)
 | []=>.refl _
 | (j,y):: r=>by
   unfold jx
   split
   ·exact .refl _
   ·exact ((gf k x r).cons _).trans (.swap _ _ _)
theorem bO:∀ l:List (Ky × α),(cw l).Perm l
 | []=>.refl _
 | (k,x):: r=>(gf k x _).trans ((bO r).cons _)
def za (l:List (Ky × α)):Prop:=l.Pairwise fun a b=>jt a.1 b.1=true
theorem p8 {k:Ky}{x:α}:∀ {l:List (Ky × α)},za l->(∀ p∈l,p.1≠k)->za (jx k x l)
 | [],_,_=>List.pairwise_singleton _ _
 | (j,y):: r,h,hn=>by
   obtain ⟨h1,h2⟩:=List.pairwise_cons.mp h
   unfold jx
   by_cases e:jt k j=true
   ·rw [if_pos e]
    refine List.pairwise_cons.mpr ⟨fun p hp=>?_,h⟩
    rcases List.mem_cons.mp hp with rfl | hp
    ·exact e
    ·exact gE e (h1 p hp)
   ·rw [if_neg e]
    have jk:jt j k=true:=(gu (hn _ List.mem_cons_self)).resolve_right e
    refine List.pairwise_cons.mpr ⟨fun p hp=>?_,p8 h2 fun p hp=>hn p (List.mem_cons_of_mem _ hp)⟩
    rcases List.mem_cons.mp ((gf k x r).mem_iff.mp hp) with rfl | hp
    ·exact jk
    ·exact h1 p hp
theorem l6:∀ {l:List (Ky × α)},(l.map (·.1)).Nodup->za (cw l)
 | [],_=>.nil
 | (k,x):: r,h=>by
   obtain ⟨h1,h2⟩:=List.nodup_cons.mp h
   exact p8 (l6 h2) fun p hp z=>h1 (z ▸ List.mem_map_of_mem (f:=(·.1)) ((bO r).mem_iff.mp hp))
theorem jJ:∀ {l1 l2:List (Ky × α)},za l1->za l2->l1.Perm l2->l1=l2
 | [],l2,_,_,p=>(List.nil_perm.mp p).symm
 | a :: l1,[],_,_,p=>(List.nil_perm.mp p.symm)
 | a :: l1,b :: l2,h1,h2,p=>by
   obtain ⟨u1,v1⟩:=List.pairwise_cons.mp h1
   obtain ⟨u2,v2⟩:=List.pairwise_cons.mp h2
   have e:a=b:=by
    rcases List.mem_cons.mp (p.mem_iff.mp List.mem_cons_self) with z | z
    ·exact z
    ·rcases List.mem_cons.mp (p.mem_iff.mpr (List.mem_cons_self (a:=b) (l:=l2))) with w | w
     ·exact w.symm
     ·have c1:=u2 a z
      have c2:=u1 b w
      have c3:=gE c1 c2
      rw [jo] at c3
      cases c3
   subst e
   rw [jJ v1 v2 (List.Perm.cons_inv p)]
theorem u3 {l1 l2:List (Ky × α)}(nd:(l2.map (·.1)).Nodup)(h:za l1)(p:l1.Perm l2):l1=cw l2:=jJ h (l6 nd) (p.trans (bO l2).symm)
end
def zT (xs:List V)(p:Array Nat):List V:=p.toList.map fun i=>xs.getD i .non
theorem my {xs:List V}{us:List Value}(rv:aI xs us){n:Nat}{r:Nat->Nat}{p:Array Nat}(P:Pm n r p)(hn:n≤xs.length):aI (zT xs p) (b9 us p):=by
 have key:∀ l:List Nat,(∀ i∈l,i < xs.length)->aI (l.map fun i=>xs.getD i .non) (l.map fun i=>us.getD i Value.none):=by
  intro l
  induction l with
  | nil=>intro _; exact .nil
  | cons i l ih =>
    intro h
    have hi:=h i List.mem_cons_self
    obtain ⟨u,e,r⟩:=rv.get (i:=i) (x:=xs[i]) (by simp [hi])
    refine .cons ?_ (ih fun j hj=>h j (List.mem_cons_of_mem _ hj))
    show aC (xs.getD i .non) (us.getD i Value.none)
    rw [List.getD_eq_getElem?_getD,List.getD_eq_getElem?_getD,e,show xs[i]?=some xs[i] by simp [hi]]
    exact r
 refine key p.toList fun i hi=>?_
 have z:i∈(List.range n):=by
  have pl:p.toList.Perm (List.range n):=by simpa using P.perm.toList
  exact pl.mem_iff.mp hi
 have:=List.mem_range.mp z
 omega
theorem lY {xs:List V}{ks:List Ky}(hl:xs.length=ks.length)(nd:ks.Nodup){p:Array Nat}(P:Pm xs.length (rk ks) p)(U:Up (rk ks) p xs.length):zT xs p=(cw (ks.zip xs)).map (·.2):=by
 have pl:p.toList.Perm (List.range xs.length):=by simpa using P.perm.toList
 have e1:(List.range xs.length).map (fun i=>(bZ ks i,xs.getD i V.non))=ks.zip xs:=by
  apply List.ext_getElem
  ·simp [hl]
  ·intro i h1 h2
   have hi:i < xs.length:=by simpa using h1
   have hk:i < ks.length:=by omega
   simp [bZ,hi,hk]
 have z:p.toList.map (fun i=>(bZ ks i,xs.getD i V.non))=cw (ks.zip xs):=by
  refine u3 ?_ ?_ ?_
  ·rw [List.map_fst_zip (by omega)]; exact nd
  ·unfold za
   rw [List.pairwise_map]
   refine List.pairwise_iff_getElem.mpr fun i j hi hj hij=>?_
   have sz:=P.size
   rw [Array.length_toList] at hi hj
   have u:=U i j hij (by omega)
   have gi:p.getD i 0=p.toList[i]:=by simp [Array.getD,hi]
   have gj:p.getD j 0=p.toList[j]:=by simp [Array.getD,hj]
   rw [gi,gj] at u
   have bi:p.toList[i] < ks.length:=by rw [← gi,← hl]; exact P.lt i (by omega)
   have bj:p.toList[j] < ks.length:=by rw [← gj,← hl]; exact P.lt j (by omega)
   rw [← uk bi bj]
   exact decide_eq_true u
  ·exact (pl.map _).trans (by rw [e1])
 rw [← z,List.map_map]
 rfl
def AH (K:Frag):List V->Hp->VK->Prop:=fun vs H Q=>∃ l xs ks,vs=[.ref l]∧a7 K H l xs∧xs.length < 64∧cp K H xs ks∧ks.Nodup∧∀ D,H D=none->Q (.ref D) (upd H D (.lst ((cw (ks.zip xs)).map (·.2))))
section
variable {X:Cx}{k:Nat}
theorem lQ (hr:Room (k + 2) X.A):cy X (.builtin "sorted") (AH X.K):=by
 intro pins s σ H vs us Q I r h
 obtain ⟨l,xs,ks,rfl,hl,h64,hk,nd,q⟩:=h
 obtain ⟨u,rfl,ru⟩:=c0 r
 cases (show u=Value.ref l from ru)
 obtain ⟨its,rv,pl,hz⟩:=I.list hl
 have ln:=rv.length
 have lk:=hk.len
 have inj:=v3 nd
 refine si (r:=rk ks) pl.isList (by omega) (fun i j hi hj=>inj i j (by omega) (by omega)) (fun h2 h' kp=>?_) fun h' D p c kp hD e pm up=>?_
 ·exact ik (s:={ s with heap:=h' }) (I.kept (t':=s.toks) kp) (by have:=(hr.in1.in1).units; omega) hk rv nd h2
 ·have pm':Pm xs.length (rk ks) p:=by rw [ln]; exact pm
  have up':Up (rk ks) p xs.length:=by rw [ln]; exact up
  have hv:=my rv pm' (Nat.le_refl _)
  rw [lY lk nd pm' up'] at hv
  have hlen:((cw (ks.zip xs)).map (·.2)).length≤sizeLine:=by
   rw [List.length_map,(bO _).length_eq,List.length_zip]
   exact Nat.le_trans (Nat.min_le_right _ _) (cn h64)
  exact ⟨.ref D,_,I.newObj (t':=s.toks) (o:=.lst ((cw (ks.zip xs)).map (·.2))) kp hD ⟨hlen,_,c,hv,e⟩,rfl,q D (I.hnone hD)⟩
end
def jO (sp:Sp):List V->Hp->(List V->Hp->Prop)->Prop
 | [],H,R=>R [] H
 | x :: xs,H,R=>sp [x] H (fun k H1=>jO sp xs H1 fun ks H2=>R (k :: ks) H2) fun _ _ _=>False
section
variable {X:Cx}{pins:List (Addr × Obj)}{σ:L2.St}{H:Hp}{s:Shared}
theorem rN {D:Addr}{o:HO}(I:Inv X pins σ H s)(f:cu X pins H D)(hD:X.s₀.heap.objs.size≤D)(new:a8 X.prog X.w (upd H D o) s.heap D o):Inv X pins σ (upd H D o) s:=by
 obtain ⟨f0,f1,f2,f3,f4,f5⟩:=f
 have u:=I.base
 refine ⟨I.ok,I.os,I.bare,⟨u.keep,u.slot,fun b' o' e n hx=>?_,u.there,fun b' xs e=>?_,fun b' o' u' e=>?_,fun b' ps e=>?_⟩,I.loc,I.cell,?_,fun x c e=>?_,fun p hp=>?_,dn I.hok f0 new,I.len⟩
 ·rw [ar (Nat.ne_of_lt (Nat.lt_of_lt_of_le (Heap.lt_size e) hD))]; exact u.free b' o' e n hx
 ·rw [ar (au (u.tups b' xs e) f0)]; exact u.tups b' xs e
 ·rw [ar (au (u.frzs b' o' u' e) f0)]; exact u.frzs b' o' u' e
 ·obtain ⟨m,q⟩:=u.tbls b' ps e
  exact ⟨m,by rw [ar (au q f0)]; exact q⟩
 ·rw [ar (Ne.symm f1)]; exact I.free
 ·rw [ar (f4 x c e)]; exact I.freeC x c e
 ·obtain ⟨e,n,r⟩:=I.pin p hp
  exact ⟨e,by rw [ar (f5 p hp)]; exact n,r⟩
theorem xc {b c:Addr}{ob:Obj}(f:cu X pins H b)(h:c≠b):cu X (pins++[(c,ob)]) H b:=by
 obtain ⟨f0,f1,f2,f3,f4,f5⟩:=f
 refine ⟨f0,f1,f2,f3,f4,fun p hp=>?_⟩
 rw [← List.append_assoc] at hp
 rcases List.mem_append.mp hp with z | z
 ·exact f5 p z
 ·have e:p=(c,ob):=by simpa using z
  subst e
  exact h
theorem lF {H':Hp}{b:Addr}(f:cu X pins H b)(h:H' b=none):cu X pins H' b:=⟨h,f.2⟩
theorem pW {b:Addr}{ob:Obj}(I:Inv X pins σ H s)(f:cu X pins H b)(e:s.heap.get? b=some ob)(d:∀ v,ob.data ≠ .cell v):Inv X (pins++[(b,ob)]) σ H s:=I.pins_of fun p hp=>by
 rcases List.mem_append.mp hp with z | z
 ·exact I.pin p (List.mem_append_right _ z)
 ·have e1:p=(b,ob):=by simpa using z
  subst e1
  exact ⟨e,f.1,f.2.1,f.2.2.1,d⟩
theorem kc {b:Addr}{ob:Obj}(I:Inv X (pins++[(b,ob)]) σ H s):Inv X pins σ H s:=I.pins_of fun p hp=>I.pin p (List.mem_append_right _ (List.mem_append_left _ hp))
theorem tZ {b:Addr}{ob:Obj}(I:Inv X (pins++[(b,ob)]) σ H s):s.heap.get? b=some ob∧H b=none:=by
 obtain ⟨e,n,_⟩:=I.pin (b,ob) (List.mem_append_right _ (List.mem_append_right _ (by simp)))
 exact ⟨e,n⟩
end
theorem jc {c:String}{xs:Array Value}{n:Nat}:∀ v,(seqObj c xs n).data ≠ .cell v:=fun v z=>by cases z
section
variable {X:Cx}{pins:List (Addr × Obj)}{σ:L2.St}{k:Nat}{f:Addr}{fd:FuncData}{ps:List Str}{sp:Sp}{A:Around}{E:Value->Shared->Prop}
theorem uR {H:Hp}{s:Shared}{x:V}{u:Value}{Q:VK}(F:FnOk X.prog X.w X.K X.mg X.base (bh X.prog X.w) k f fd ps sp)(hr:Room k A)(hA:∀ H s,Inv X pins σ H s->Env0 X.prog X.w X.K X.mg X.base A X.stack s H)(hb:ay X.K fd ps [])(I:Inv X pins σ H s)(r:aC x u)(h:sp [x] H Q fun _ _ _=>False):
 wpAny (model X.prog X.w) A (call (.ref f) [u]) (EP X pins σ Q) (fun _ _=>False) s:=by
 have hl:([u]:List Value).length + ([]:List Value).length=ps.length:=by have:=F.len _ _ _ _ h; simpa using this
 have bd:=hb s [u] I.kIn hl
 rw [List.append_nil] at bd
 refine wpAny_call (codeAny_mono (F.run A X.stack s H ⟨[u],[]⟩ [u] [x] Q _ hr (hA H s I) bd (.cons r .nil) h) fun res s' hq=>?_)
 cases res with
 | error e =>
   obtain ⟨a,cls,a0,B,d,H',_,_,_,_,hE⟩:=hq
   exact hE.elim
 | ok fl =>
   cases fl with
   | ret v=>exact I.after hq
   | next=>exact False.elim hq
   | brk=>exact False.elim hq
   | cont=>exact False.elim hq
end
abbrev iW (X:Cx)(xs:List V)(Q:VK):List V->Hp->Prop:=fun ks H2=>∃ kz,cp X.K H2 ks kz∧kz.Nodup∧∀ D,H2 D=none->Q (.ref D) (upd H2 D (.lst ((cw (kz.zip xs)).map (·.2))))
section
variable {X:Cx}{pins:List (Addr × Obj)}{σ:L2.St}{k:Nat}{f:Addr}{fd:FuncData}{ps:List Str}{sp:Sp}{A:Around}{E:Value->Shared->Prop}
theorem wK {ks vs:List Value}(h:ks.length=vs.length):((ks.toArray.zip vs.toArray).map (·.2))=vs.toArray:=by
 apply Array.toList_inj.mp
 rw [Array.toList_map,ksk_zip]
 simp only [List.toList_toArray] at *
 exact List.map_snd_zip (by omega)
theorem rl {H:Hp}{s:Shared}{D kS:Addr}{e1 c:Nat}{xs kV:List V}{us ks:List Value}{Q:VK}{P:PySem.Fin->Shared->Prop}(hA:A.units + 2 < cLine)(hD:X.s₀.heap.objs.size≤D)(fD:cu X pins H D)(fS:cu X pins H kS)(ne:kS≠D)
 (I:Inv X pins σ H s)(eD:s.heap.get? D=some (seqObj "list" #[] e1))(eS:s.heap.get? kS=some (seqObj "list" ks.toArray c))(rx:aI xs us)(rk':aI kV ks)(hl:kV.length=xs.length)(h64:xs.length < 64)(w:iW X xs Q kV H)
 (hP:∀ s',EP X pins σ Q (.ref D) s'->P (.done (.ret .none)) s'):wpAny (model X.prog X.w) A (ksk_end D false us.toArray e1 (.ref kS) ks.toArray) P E s:=by
 obtain ⟨kz,hk,nd,q⟩:=w
 have l1:=rx.length
 have l2:=rk'.length
 have l3:=hk.len
 have inj:=v3 nd
 have fin:∀ p,Pm xs.length (rk kz) p->Up (rk kz) p xs.length->∀ st:SortSt,(arrOf st).map (·.2)=(b9 us p).toArray->failedOf st=none->wpAny (model X.prog X.w) A (ksk_tail D false e1 (.ref kS) st) P E s:=fun p pm up st har hf=>by
  have vls:=my rx pm (Nat.le_refl _)
  rw [lY (by omega) nd pm up] at vls
  have hlen:((cw (kz.zip xs)).map (·.2)).length≤sizeLine:=by
   rw [List.length_map,(bO _).length_eq,List.length_zip]
   exact Nat.le_trans (Nat.min_le_right _ _) (cn h64)
  have olen:(b9 us p).toArray.size≤sizeLine:=by rw [List.size_toArray,← vls.length]; exact hlen
  have sb1:=Heap.SameBut.update s.heap kS (Obj.mapSeq fun _=>(#[]:Array Value))
  have eD1:(s.heap.update kS (Obj.mapSeq fun _=>(#[]:Array Value))).get? D=some (seqObj "list" #[] e1):=(sb1.2 D (Ne.symm ne)).trans eD
  have I1:Inv X pins σ H { s with heap:=s.heap.update kS (Obj.mapSeq fun _=>(#[]:Array Value)) }:=cA I fS sb1
  unfold ksk_tail
  dsimp only
  rw [har]
  refine wpAny_bind (listUpdate_at eS rfl (wpAny_bind (wpAny_letGo ?_)) (by rw [List.size_toArray,← l2,hl]; exact cn h64) (Nat.zero_le _))
  generalize s.heap.update kS (Obj.mapSeq fun _=>(#[]:Array Value))=h1 at eD1 I1 ⊢
  have sb2:=Heap.SameBut.update h1 D (Obj.mapSeq fun _=>(b9 us p).toArray)
  obtain ⟨c2,hc2⟩:∃ c2,(h1.update D (Obj.mapSeq fun _=>(b9 us p).toArray)).get? D=some (seqObj "list" (b9 us p).toArray c2):=⟨_,get?_update_seq eD1 fun _=>(b9 us p).toArray⟩
  have I2:Inv X pins σ H { s with heap:=h1.update D (Obj.mapSeq fun _=>(b9 us p).toArray) }:=cA (s:={ s with heap:=h1 }) I1 fD sb2
  have I3:=rN (o:=.lst ((cw (kz.zip xs)).map (·.2))) I2 fD hD ⟨hlen,_,c2,vls,hc2⟩
  refine wpAny_bind (seqEpoch_at eD1 rfl (wpAny_bind (listUpdate_at eD1 rfl ?_ (Nat.zero_le _) (Nat.le_succ_of_le olen))))
  rw [hf]
  simp only [bne_self_eq_false,Bool.false_eq_true,if_false]
  exact wpAny_pure (hP _ ⟨.ref D,_,I3,rfl,q D fD.1⟩)
 have P0:Pm xs.length (rk kz) (List.range xs.length).toArray:=nh (fun i j hi hj=>inj i j (by omega) (by omega)) (Array.Perm.refl _)
 unfold ksk_end
 dsimp only
 rw [if_neg Bool.false_ne_true]
 simp only [Bool.false_eq_true,if_false]
 by_cases h2:us.toArray.size < 2
 ·have small:xs.length < 2:=by rw [l1]; simpa using h2
  rw [if_pos h2,if_pos h2]
  refine wpAny_bind (wpAny_pure ?_)
  rw [StateT.run_pure]
  refine wpAny_bind (wpAny_pure ?_)
  refine fin (List.range xs.length).toArray P0 (fun i j hij hj=>by omega) _ ?_ rfl
  show (ks.toArray.zip us.toArray).map (·.2)=_
  rw [wK (by omega),l1,ml]
 ·have big:2≤us.length:=by simpa using h2
  rw [if_neg h2,if_neg h2]
  obtain ⟨κ,hkind,hask⟩:=ik (A:=A) I hA hk rk' nd (by omega)
  refine wpAny_bind (wpAny_mono (hkind (fun κ' s0=>(kas_sort us.length).kasWp (kas_ask X.prog X.w A κ' ks) (fun p s'=>s'=s∧Pm us.length (rk kz) p∧Up (rk kz) p us.length) s0) (qy (n:=us.length) (r:=rk kz) (fun i j hi hj=>inj i j (by omega) (by omega)) (fun i j C hi hj=>hask i j C (by omega) (by omega)) (by omega) fun p pm up=>⟨rfl,pm,up⟩)) (fun κ' s0 hw=>?_) fun _ _ x=>x.elim)
  refine wpAny_bind (wpAny_mono (kat_run (κ:=κ') (Q:=fun st' s'=>∃ p:Array Nat,arrOf st'=p.map (kas_item (ks.toArray.zip us.toArray))∧failedOf st'=none∧s'=s∧Pm us.length (rk kz) p∧Up (rk kz) p us.length) (by omega) big (by omega) (fun p' st' s' _ a2 a3 a4=>⟨p',a2,a3,a4⟩) hw) ?_ fun _ _ e=>e)
  rintro ⟨⟨⟩,st'⟩ s' ⟨p,har,hf,rfl,pm,up⟩
  exact fin p (by rw [l1]; exact pm) (by rw [l1]; exact up) st' (kat_snds (by omega) har) hf
theorem vx {α:Type}{l:List α}{j:Nat}{x:α}(h:l[j]?=some x):l.drop j=x :: l.drop (j + 1):=by
 obtain ⟨hj,e⟩:=List.getElem?_eq_some_iff.mp h
 rw [List.drop_eq_getElem_cons hj,e]
theorem jz {H:Hp}{s:Shared}{D:Addr}{n:Nat}{xs:List V}{us:List Value}{Q:VK}{P:PySem.Fin->Shared->Prop}(F:FnOk X.prog X.w X.K X.mg X.base (bh X.prog X.w) k f fd ps sp)(hr:Room k A)(hE:∀ pins' H s,Inv X pins' σ H s->Env0 X.prog X.w X.K X.mg X.base A X.stack s H)(hb:ay X.K fd ps [])
 (hD:X.s₀.heap.objs.size≤D)(fD:cu X pins H D)(I:Inv X pins σ H s)(eD:s.heap.get? D=some (seqObj "list" us.toArray n))(rx:aI xs us)(h64:xs.length < 64)(h:jO sp xs H (iW X xs Q))
 (hP:∀ s',EP X pins σ Q (.ref D) s'->P (.done (.ret .none)) s'):wpAny (model X.prog X.w) A (ksk_tree D (.ref f) false) P E s:=by
 have l1:=rx.length
 have s64:us.toArray.size≤sizeLine:=by rw [List.size_toArray,← l1]; exact cn h64
 obtain ⟨e1,eD1⟩:∃ e1,(s.heap.update D (Obj.mapSeq fun _=>(#[]:Array Value))).get? D=some (seqObj "list" #[] e1):=⟨_,get?_update_seq eD fun _=>#[]⟩
 have I1:Inv X pins σ H { s with heap:=s.heap.update D (Obj.mapSeq fun _=>(#[]:Array Value)) }:=cA I fD (Heap.SameBut.update _ _ _)
 unfold ksk_tree
 refine wpAny_bind (listItems_at eD rfl (wpAny_bind (listUpdate_at eD rfl (wpAny_bind (seqEpoch_at eD1 rfl (wpAny_bind (wpAny_newTuple ?_ (by show us.length≤_; rw [← l1]; exact cn h64))))) s64 (Nat.zero_le _))))
 refine wpAny_bind (wpAny_newList (wpAny_holding ?_) (Nat.zero_le _))
 generalize s.heap.update D (Obj.mapSeq fun _=>(#[]:Array Value))=h1 at eD1 I1 ⊢
 dsimp only
 have I2:Inv X pins σ H { s with heap:=h1.push (seqObj "tuple" us.toArray 0) }:=I1.kept (t':=s.toks) fun b o q=>Heap.get?_push_of_some _ q
 have eD2:(h1.push (seqObj "tuple" us.toArray 0)).get? D=some (seqObj "list" #[] e1):=Heap.get?_push_of_some _ eD1
 show wpAny (model X.prog X.w) A (ksk_rest D (.ref f) false us.toArray e1 (.ref (h1.push (seqObj "tuple" us.toArray 0)).objs.size)) P E { s with heap:=(h1.push (seqObj "tuple" us.toArray 0)).push (seqObj "list" #[] 0) }
 generalize h1.push (seqObj "tuple" us.toArray 0)=h2 at I2 eD2 ⊢
 have ne:h2.objs.size≠D:=Nat.ne_of_gt (Heap.lt_size eD2)
 have fS0:cu X pins H h2.objs.size:=I2.fpOk (Nat.le_refl _) (I2.hok.fresh (Nat.le_refl _))
 have I3:Inv X pins σ H { s with heap:=h2.push (seqObj "list" #[] 0) }:=I2.kept (t':=s.toks) fun b o q=>Heap.get?_push_of_some _ q
 have eD3:(h2.push (seqObj "list" #[] 0)).get? D=some (seqObj "list" #[] e1):=Heap.get?_push_of_some _ eD2
 have eS3:(h2.push (seqObj "list" #[] 0)).get? h2.objs.size=some (seqObj "list" ([]:List Value).toArray 0):=Heap.get?_push_size _ rfl
 have fD':∀ {H':Hp},H' D=none->cu X pins H' D:=fun z=>lF fD z
 have fS':∀ {H':Hp},H' h2.objs.size=none->cu X pins H' h2.objs.size:=fun z=>lF fS0 z
 generalize h2.objs.size=kS at ne fS0 eS3 fS' ⊢
 unfold ksk_rest
 refine wpAny_bind (wpAny_rule ?_)
 rw [List.forIn_toArray]
 let II:Nat->Shared->Prop:=fun j s'=>∃ (H':Hp)(c:Nat)(kV:List V)(ks:List Value),Inv X (pins++[(D,seqObj "list" #[] e1)]) σ H' s'∧s'.heap.get? kS=some (seqObj "list" ks.toArray c)∧H' kS=none∧aI kV ks∧kV.length=j∧jO sp (xs.drop j) H' fun k2 H2=>iW X xs Q (kV++k2) H2
 have I4:Inv X (pins++[(D,seqObj "list" #[] e1)]) σ H { s with heap:=h2.push (seqObj "list" #[] 0) }:=pW I3 fD eD3 jc
 refine wpAny_bind (wpAny_mono (ksk_fold (E:=E) (Q:=fun _ s'=>II us.length s') II us 0 { s with heap:=h2.push (seqObj "list" #[] 0) } ⟨H,0,[],[],I4,eS3,fS0.1,.nil,rfl,by simpa using h⟩ (fun j u s' hu hI=>?_) fun s' hd=>by simpa using hd) (fun _ s' hI=>?_) fun _ _ e=>e)
 ·rw [Nat.zero_add] at hI ⊢
  obtain ⟨H',c,kV,ks,J,eS,nS,rk',hl,t⟩:=hI
  have hj:j < us.length:=(List.getElem?_eq_some_iff.mp hu).1
  obtain ⟨x,hx⟩:∃ x,xs[j]?=some x:=⟨xs[j]'(by omega),by simp [show j < xs.length by omega]⟩
  obtain ⟨u',hu',rx'⟩:=rx.get hx
  rw [hu] at hu'
  cases hu'
  rw [vx hx] at t
  have fS1:cu X (pins++[(D,seqObj "list" #[] e1)]) H' kS:=xc (fS' nS) (Ne.symm ne)
  have J2:=pW J fS1 eS jc
  refine wpAny_bind (wpAny_attempt (wpAny_mono (uR F hr (hE _) hb J2 rx' t) (fun kv s2 hk=>?_) fun _ _ z=>z.elim))
  obtain ⟨v,H2,J3,rv,t2⟩:=hk
  obtain ⟨eS2,nS2⟩:=tZ J3
  have J4:=kc J3
  have fS2:cu X (pins++[(D,seqObj "list" #[] e1)]) H2 kS:=lF fS1 nS2
  have ea:ks.toArray.push kv=(ks++[kv]).toArray:=by simp
  obtain ⟨c2,hc2⟩:∃ c2,(s2.heap.update kS (Obj.mapSeq (·.push kv))).get? kS=some (seqObj "list" (ks++[kv]).toArray c2):=⟨_,by rw [← ea]; exact get?_update_seq eS2 (·.push kv)⟩
  have lk:=rk'.length
  refine wpAny_bind (listUpdate_at eS2 rfl ?_ (by rw [List.size_toArray]; exact cn (by omega)) (Nat.le_trans (Nat.le_of_eq (Array.size_push ..)) (by rw [List.size_toArray]; exact Nat.succ_le_succ (cn (by omega)))))
  refine wpAny_pure ⟨rfl,H2,c2,kV++[v],ks++[kv],cA J4 fS2 (Heap.SameBut.update _ _ _),hc2,nS2,rk'.append (.cons rv .nil),by simp [hl],?_⟩
  have e:∀ k2:List V,kV++[v]++k2=kV++v :: k2:=fun k2=>by simp
  simp only [e]
  exact t2
 ·obtain ⟨H',c,kV,ks,J,eS,nS,rk',hl,t⟩:=hI
  rw [← l1,List.drop_length] at t
  have w:iW X xs Q kV H':=by
   have z:iW X xs Q (kV++[]) H':=t
   rwa [List.append_nil] at z
  obtain ⟨eD4,nD⟩:=tZ J
  refine wpAny_bind (listItems_at eS rfl ?_)
  exact rl (by have:=hr.units; omega) hD (fD' nD) (fS' nS) ne (kc J) eD4 eS rx rk' (by omega) h64 w hP
theorem ou {H:Hp}{s:Shared}{l:Addr}{xs:List V}{Q:VK}(F:FnOk X.prog X.w X.K X.mg X.base (bh X.prog X.w) k f fd ps sp)(hr:Room (k + 2) X.A)(hb:ay X.K fd ps [])
 (I:Inv X pins σ H s)(hl:a7 X.K H l xs)(h64:xs.length < 64)(h:jO sp xs H (iW X xs Q)):wpAny (model X.prog X.w) X.A (call (.builtin "sorted") [.ref l] [(Str.ofString "key",.ref f)]) (EP X pins σ Q) E s:=by
 obtain ⟨us,rx,pl,_⟩:=I.list hl
 have l1:=rx.length
 refine call_function_entry_kw kind_sorted plain_sorted entry_sorted (ksk_s1 _ _) ?_
 unfold Builtin.«sorted»
 refine wpAny_bind (m:=checkCount "sorted" 1 1 _) (wpAny_pure (wpAny_bind (collect_list pl.isList (wpAny_bind (wpAny_newList ?_ (cn (by omega)))) (cn (by omega)))))
 have sz:((s.heap.push (seqObj "list" #[] 0)).update s.heap.objs.size (Obj.mapSeq (·++us.toArray))).objs.size=s.heap.objs.size + 1:=by rw [Heap.size_update]; exact size_push' _ _
 have at1:(((s.heap.push (seqObj "list" #[] 0)).update s.heap.objs.size (Obj.mapSeq (·++us.toArray))).push (seqObj "list" us.toArray 0)).get? (s.heap.objs.size + 1)=some (seqObj "list" us.toArray 0):=by
  rw [← sz]; exact Heap.get?_push_size _ rfl
 have old:∀ b o,s.heap.get? b=some o->(((s.heap.push (seqObj "list" #[] 0)).update s.heap.objs.size (Obj.mapSeq (·++us.toArray))).push (seqObj "list" us.toArray 0)).get? b=some o:=fun b o q=>by
  have lt:b < s.heap.objs.size:=Heap.lt_size q
  refine Heap.get?_push_of_some _ ?_
  rw [Heap.get?_update_ne _ _ _ _ (Nat.ne_of_lt lt)]; exact Heap.get?_push_of_some _ q
 show wpAny _ _ _ _ _ { s with heap:=((s.heap.push (seqObj "list" #[] 0)).update s.heap.objs.size (Obj.mapSeq (·++us.toArray))).push (seqObj "list" us.toArray 0) }
 rw [sz]
 generalize ((s.heap.push (seqObj "list" #[] 0)).update s.heap.objs.size (Obj.mapSeq (·++us.toArray))).push (seqObj "list" us.toArray 0)=h5 at at1 old ⊢
 have I5:Inv X pins σ H { s with heap:=h5 }:=I.kept (t':=s.toks) old
 have fD:cu X pins H (s.heap.objs.size + 1):=I.fpOk (Nat.le_succ _) (I.hok.fresh (Nat.le_succ _))
 refine wpAny_bind (wpAny_holding (wpAny_call_entry_kw slot_list_sort ⟨_,at1,rfl⟩ entry_list_sort ?body (ksk_l1 _ _)))
 case body =>
  show wpAny (model X.prog X.w) X.A.in1.in1 (Builtin.«list.sort» ⟨[.ref (s.heap.objs.size + 1)],[(Str.ofString "key",.ref f)]⟩) _ _ _
  rw [ksk_t1]
  exact jz (A:=X.A.in1.in1) F hr.in1.in1 (fun pins' H' s' J=>J.env0.in1.in1) hb (Nat.le_trans I.sz (Nat.le_succ _)) fD I5 at1 rx h64 h fun s' q=>⟨_,rfl,wpAny_pure ⟨_,rfl,q⟩⟩
end
def zk (X:Cx)(sp:Sp)(ta:TE):TE:=fun σ H Q=>cG ta tNil σ H fun vs H1=>∃ l xs,vs=[.ref l]∧a7 X.K H1 l xs∧xs.length < 64∧jO sp xs H1 (iW X xs Q)
section
variable {X:Cx}{k:Nat}{f:Addr}{fd:FuncData}{ps:List Str}{sp:Sp}{e:Expr}{ta:TE}{x:Str}{p p2 kpos pos:Pos}
theorem vb (F:FnOk X.prog X.w X.K X.mg X.base (bh X.prog X.w) k f fd ps sp)(hr:Room (k + 2) X.A)(hb:ay X.K fd ps [])(hg:Gl X "sorted")(hm:X.mg "sorted"=none)(hgf:Gl X x)(hmf:X.mg x=some (.ref f))(ha:PE X e ta)(hs:eT e=false:=by rfl)(hd:(x == ("__debug__":Str))=false:=by decide):
 PE X (.Call (.Name "sorted" p) [e] [⟨some "key",.Name x p2,kpos⟩] pos) (zk X sp ta):=by
 intro pins s σ H Q I h
 refine wpAny_Call_Name_kw (dH I hg hm (by rfl) ?_ (by decide) (by decide))
 refine callWith_builtin_kwB (by rw [bu hs]; rfl) rfl (evalArgs_kw2 rfl ?_ (bu hs))
 refine br (aj ha af hs pos pins s σ H _ I h) fun us s1 ⟨vs,H1,I1,r1,⟨l,xs,hv,hl,h64,ht⟩⟩=>?_
 subst hv
 cases r1 with
 | cons ra rb =>
   cases rb
   cases ra
   refine kwAll_cons (d9 I1 hgf hmf (kwAll_nil ?_) hd)
   exact ou F hr hb I1 hl h64 ht
end
end Srt
namespace K05
open PySem L2 PySem.W Nm Srt
theorem uA {n:Nat}{p t b:Int}(hp:FP p)(h:B n t)(hb:b≠0)(hn:7≤n):B n (eF p t b):=by
 unfold eF
 by_cases z:p=0
 ·rw [if_pos z]
  exact h.le (qt hb)
 ·rw [if_neg z]
  obtain ⟨_,p2,p97⟩:=hp.two z
  have h0:=Int.emod_nonneg t (b:=p) (by omega)
  have h1:=Int.emod_lt_of_pos t (b:=p) (by omega)
  have:B 7 (t % p):=by
   show (t % p).natAbs < 2 ^ 7
   omega
  exact this.mono hn
theorem vy {n:Nat}{p t b:Int}(h:B n b)(hb:b≠0)(hn:1≤n):B n (eE p t b):=by
 unfold eE
 by_cases z:p=0
 ·rw [if_pos z]
  exact h.le (qv hb)
 ·rw [if_neg z]
  exact (show B 1 (1:Int) from (by show (1:Int).natAbs < 2 ^ 1; decide)).mono hn
abbrev Tm:=List Int × Int × Int
def cI (p:Int)(a b:Int × Int):Int × Int:=(eF p (gK a.1 a.2 b.1 b.2) (a.2 * b.2),eE p (gK a.1 a.2 b.1 b.2) (a.2 * b.2))
def Gn (p:Int)(n:Nat)(a:Int × Int):Prop:=Num p a.1 a.2∧B n a.1∧B n a.2
theorem Gn.ne {p:Int}{n:Nat}{a:Int × Int}(h:Gn p n a):a.2≠0:=by have:=h.1.pos; omega
theorem j8 {p:Int}{n m:Nat}{a b:Int × Int}(hp:FP p)(ha:Gn p n a)(hb:Gn p m b)(h7:7≤n + m + 1):Gn p (n + m + 1) (cI p a b):=by
 have nz:a.2 * b.2≠0:=Int.mul_ne_zero ha.ne hb.ne
 refine ⟨Num.set hp.nn nz,uA hp ?_ nz h7,(vy (n:=n + m) (ha.2.2.mul hb.2.2) nz (by omega)).mono (by omega)⟩
 have h1:B (n + m) (a.1 * b.2):=ha.2.1.mul hb.2.2
 have h2:B (n + m) (b.1 * a.2):=(hb.2.1.mul ha.2.2).mono (by omega)
 exact h1.add h2
theorem sR {p:Int}{n:Nat}{b:Int × Int}(hp:FP p)(hb:Gn p n b):cI p (0,1) b=b:=by
 obtain ⟨h1,h2⟩:=hb.1.self hp.nn
 unfold cI gK
 have e1:(0:Int) * b.2 + b.1 * 1=b.1:=by omega
 have e2:(1:Int) * b.2=b.2:=by omega
 rw [e1,e2,h1,h2]
def fM (p:Int)(d:List Tm)(t:Tm):List Tm:=if d.any (fun e=>decide (e.1=t.1))=true then d.map (fun e=>if e.1=t.1 then (e.1,cI p e.2 t.2) else e) else d++[t]
def aM (p:Int)(ts:List Tm):List Tm:=ts.foldl (fM p) []
def nX (p:Int)(n:Nat)(d:List Tm):Prop:=∀ e∈d,Gn p n e.2
theorem rm {p:Int}{n m:Nat}{d:List Tm}{t:Tm}(hp:FP p)(hd:nX p n d)(ht:Gn p m t.2)(h7:7≤n + m + 1):nX p (n + m + 1) (fM p d t):=by
 have up:∀ e∈d,Gn p (n + m + 1) e.2:=fun e he=>⟨(hd e he).1,(hd e he).2.1.mono (by omega),(hd e he).2.2.mono (by omega)⟩
 unfold fM
 split
 ·intro e he
  obtain ⟨e0,h0,rfl⟩:=List.mem_map.mp he
  by_cases q:e0.1=t.1
  ·rw [if_pos q]; exact j8 hp (hd e0 h0) ht h7
  ·rw [if_neg q]; exact up e0 h0
 ·intro e he
  rcases List.mem_append.mp he with he | he
  ·exact up e he
  ·have:e=t:=by simpa using he
   subst this
   exact ⟨ht.1,ht.2.1.mono (by omega),ht.2.2.mono (by omega)⟩
theorem rA {p:Int}{d:List Tm}{t:Tm}(hd:(d.map (·.1)).Nodup):((fM p d t).map (·.1)).Nodup:=by
 unfold fM
 split
 ·rw [List.map_map]
  have:((fun e:Tm=>e.1) ∘ fun e=>if e.1=t.1 then (e.1,cI p e.2 t.2) else e)=fun e=>e.1:=by
   funext e
   show (if e.1=t.1 then (e.1,cI p e.2 t.2) else e).1=e.1
   split <;> rfl
  rw [this]
  exact hd
 ·rename_i q
  rw [List.map_append]
  refine List.nodup_append.mpr ⟨hd,by simp,fun a ha b hb z=>?_⟩
  have:b=t.1:=by simpa using hb
  subst this
  subst z
  obtain ⟨e,he,e1⟩:=List.mem_map.mp ha
  exact q (List.any_eq_true.mpr ⟨e,he,by simpa using e1⟩)
theorem uX {p:Int}{d:List Tm}{t:Tm}:(fM p d t).length≤d.length + 1:=by
 unfold fM
 split <;> simp
def eM (t:Tm):Ky:=(t.1.length,t.1)
def cP (d:List Tm):List Tm:=(cw ((d.filter fun e=>e.2.1 != 0).map fun e=>(eM e,e))).map (·.2)
theorem gA (p:Int)(ts:List Tm)(t:Tm):aM p (ts++[t])=fM p (aM p ts) t:=by
 unfold aM
 rw [List.foldl_append]
 rfl
theorem d0 {p:Int}{m:Nat}(hp:FP p):∀ (n:Nat)(ts:List Tm),ts.length=n->(∀ t∈ts,Gn p m t.2)->nX p ((m + 1) * n + 7) (aM p ts)∧((aM p ts).map (·.1)).Nodup∧(aM p ts).length≤n
 | 0,ts,hn,_=>by
   have:ts=[]:=List.length_eq_zero_iff.mp hn
   subst this
   refine And.intro (fun e he=>?_) (And.intro List.nodup_nil (Nat.le_refl 0))
   exact absurd (show e∈([]:List Tm) from he) (by simp)
 | n + 1,ts,hn,h=>by
   obtain ⟨ini,t,rfl⟩:∃ ini t,ts=ini++[t]:=by
    have hne:ts≠[]:=by intro z; rw [z] at hn; cases hn
    exact ⟨ts.dropLast,ts.getLast hne,(List.dropLast_concat_getLast hne).symm⟩
   have hl:ini.length=n:=by simpa using hn
   obtain ⟨g1,g2,g3⟩:=d0 hp n ini hl fun t ht=>h t (List.mem_append_left _ ht)
   rw [gA]
   have gt:=h t (List.mem_append_right _ (by simp))
   have e2:(m + 1) * (n + 1)=(m + 1) * n + (m + 1):=Nat.mul_succ _ _
   refine ⟨fun e he=>?_,rA g2,Nat.le_trans uX (by omega)⟩
   have:=rm hp g1 gt (by omega) e he
   exact ⟨this.1,this.2.1.mono (by omega),this.2.2.mono (by omega)⟩
abbrev gT (ks:List Int):List Key:=ks.map Sum.inl
theorem gF (ks:List Int):(gT ks).map kV=ks.map V.int:=by unfold gT; rw [List.map_map]; rfl
theorem ly {a b:List Int}(h:gT a=gT b):a=b:=by
 have e:(gT a).map kV=(gT b).map kV:=by rw [h]
 rw [gF,gF] at e
 have inj:∀ {x y:List Int},x.map V.int=y.map V.int->x=y:=by
  intro x
  induction x with
  | nil=>intro y h; cases y with
    | nil=>rfl
    | cons c y=>simp at h
  | cons b x ih=>intro y h; cases y with
    | nil=>simp at h
    | cons c y =>
      rw [List.map_cons,List.map_cons] at h
      injection h with h1 h2
      injection h1 with h1
      rw [h1,ih h2]
 exact inj e
def zu (H:Hp)(y:V)(t:Tm):Prop:=∃ a pr nu,y = .ref a∧H a=some (.tup [.ref pr,.ref nu])∧H pr=some (.tup (t.1.map V.int))∧H nu=some (bA t.2.1 t.2.2)
abbrev aZ (H:Hp):List V->List Tm->Prop:=Paired (zu H)
abbrev DR (H:Hp):List (List Key × V)->List Tm->Prop:=Paired fun kv e=>kv.1=gT e.1∧∃ a,kv.2 = .ref a∧H a=some (bA e.2.1 e.2.2)
def aB (H H':Hp):Prop:=∀ b xs,H b=some (.tup xs)->H' b=some (.tup xs)
theorem aB.of {H H':Hp}(s:aA H H'):aB H H':=fun b xs e=>s b _ e
theorem aB.trans {H H1 H2:Hp}(a:aB H H1)(b:aB H1 H2):aB H H2:=fun c xs e=>b c xs (a c xs e)
theorem aB.upd {H:Hp}{d:Addr}{o:HO}(h:∀ xs,H d≠some (.tup xs)):aB H (upd H d o):=fun b xs e=>by
 have:b≠d:=fun z=>h xs (z ▸ e)
 rw [ar this]; exact e
theorem zu.keep {H H':Hp}{y:V}{t:Tm}(h:zu H y t)(k:aB H H'):zu H' y t:=let ⟨a,pr,nu,e,h1,h2,h3⟩:=h; ⟨a,pr,nu,e,k _ _ h1,k _ _ h2,k _ _ h3⟩
theorem aZ.keep {H H':Hp}{ys:List V}{ts:List Tm}(h:aZ H ys ts)(k:aB H H'):aZ H' ys ts:=Paired.mapP h fun _ _ z=>z.keep k
theorem DR.keep {H H':Hp}{kvs:List (List Key × V)}{d:List Tm}(h:DR H kvs d)(k:aB H H'):DR H' kvs d:=Paired.mapP h fun _ _ z=>⟨z.1,let ⟨a,e,h⟩:=z.2; ⟨a,e,k _ _ h⟩⟩
theorem pZ {H:Hp}(k:List Int):∀ {kvs:List (List Key × V)}{d:List Tm},DR H kvs d->d.any (fun e=>decide (e.1=k))=false->gm kvs (gT k)=none
 | _,_,.nil,_=>rfl
 | _,_,.cons (a:=kv) (b:=e) h t,q=>by
   rw [List.any_cons,Bool.or_eq_false_iff] at q
   have ne:¬ kv.1=gT k:=fun z=>by
    have:e.1=k:=ly (h.1.symm.trans z)
    simp [this] at q
   rw [dQ ne]
   exact pZ k t q.2
theorem ib {H:Hp}(k:List Int):∀ {kvs:List (List Key × V)}{d:List Tm},DR H kvs d->d.any (fun e=>decide (e.1=k))=true->∃ e∈d,e.1=k∧∃ a,gm kvs (gT k)=some (.ref a)∧H a=some (bA e.2.1 e.2.2)
 | _,_,.nil,q=>by simp at q
 | _,_,.cons (a:=kv) (b:=e) h t,q=>by
   by_cases z:e.1=k
   ·obtain ⟨a,e1,ha⟩:=h.2
    refine ⟨e,List.mem_cons_self,z,a,?_,ha⟩
    rw [fB (by rw [h.1,z]),e1]
   ·have ne:¬ kv.1=gT k:=fun w=>z (ly (h.1.symm.trans w))
    rw [List.any_cons,decide_eq_false z,Bool.false_or] at q
    obtain ⟨e',m,z',a,h1,h2⟩:=ib k t q
    exact ⟨e',List.mem_cons_of_mem _ m,z',a,by rw [dQ ne]; exact h1,h2⟩
theorem ze {H:Hp}(k:List Int){kvs:List (List Key × V)}{d:List Tm}(h:DR H kvs d):(kvs.any fun kv=>decide (kv.1=gT k))=d.any fun e=>decide (e.1=k):=by
 rw [i4]
 cases q:d.any fun e=>decide (e.1=k) with
 | false=>rw [pZ k h q]; rfl
 | true =>
   obtain ⟨_,_,_,a,e,_⟩:=ib k h q
   rw [e]; rfl
theorem vG {H:Hp}{p:Int}{t:Tm}{a:Addr}{kvs:List (List Key × V)}{d:List Tm}(h:DR H kvs d)(nd:(d.map (·.1)).Nodup)
 (hno:d.any (fun e=>decide (e.1=t.1))=false->H a=some (bA t.2.1 t.2.2))(hyes:∀ e∈d,e.1=t.1->H a=some (bA (cI p e.2 t.2).1 (cI p e.2 t.2).2)):DR H (dA kvs (gT t.1) (.ref a)) (fM p d t):=by
 unfold dA fM
 rw [ze t.1 h]
 by_cases q:d.any (fun e=>decide (e.1=t.1))=true
 ·rw [if_pos q,if_pos q]
  have go:∀ {kvs:List (List Key × V)}{d:List Tm},DR H kvs d->(∀ e∈d,e.1=t.1->H a=some (bA (cI p e.2 t.2).1 (cI p e.2 t.2).2)) →
   DR H (kvs.map fun kv=>if kv.1=gT t.1 then (kv.1,V.ref a) else kv) (d.map fun e=>if e.1=t.1 then (e.1,cI p e.2 t.2) else e):=by
   intro kvs d h
   induction h with
   | nil=>intro _; exact .nil
   | @cons kv e ks es h0 ht ih =>
     intro hy
     rw [List.map_cons,List.map_cons]
     refine .cons ?_ (ih fun e' m=>hy e' (List.mem_cons_of_mem _ m))
     by_cases z:e.1=t.1
     ·rw [if_pos z,if_pos (by rw [h0.1,z])]
      exact ⟨h0.1,a,rfl,hy e List.mem_cons_self z⟩
     ·rw [if_neg z,if_neg (fun w=>z (ly (h0.1.symm.trans w)))]
      exact h0
  exact go h hyes
 ·have q':d.any (fun e=>decide (e.1=t.1))=false:=Bool.eq_false_iff.mpr q
  rw [if_neg q,if_neg q]
  exact Paired.snoc h ⟨rfl,a,rfl,hno q'⟩
abbrev uE:Stmt:=(aY 23)
def pk (C:Addr):Sp:=fun vs H Q _=>∃ (s dx l:Addr)(p:Int)(ys:List V)(ts:List Tm)(m:Nat),vs=[.ref s,.ref l]∧H s=some (.ins C dx (eC p))∧FP p∧H l=some (.lst ys)∧aZ H ys ts∧ts.length < 64 ∧
 (∀ t∈ts,Gn p m t.2)∧(m + 1) * ts.length + 7≤4000∧m≤4000∧∀ H' D zs,aA H H'->H D=none->H' D=some (.lst zs)->aZ H' zs (cP (aM p ts))->Q (.ref D) H'
theorem none_of {H H':Hp}{a:Addr}(s:aA H H')(h:H' a=none):H a=none:=by
 cases e:H a with
 | none=>rfl
 | some o=>rw [s _ _ e] at h; cases h
theorem gy:FnScope ["field","terms","totals","product","number","kept"] ["field","terms"] (ao uE):=dB (by decide +kernel)
theorem ka {α β:Type}{R:α->β->Prop}{k:Ky}{x:α}{y:β}(h:R x y):∀ {l:List (Ky × α)}{m:List (Ky × β)},Paired (fun a b=>a.1=b.1∧R a.2 b.2) l m->Paired (fun a b=>a.1=b.1∧R a.2 b.2) (jx k x l) (jx k y m)
 | _,_,.nil=>.cons ⟨rfl,h⟩ .nil
 | _,_,.cons (a:=(j,u)) (b:=(j',v)) (l₁:=r) (l₂:=r') h0 t=>by
   obtain ⟨e,h1⟩:=h0
   have e:j=j':=e
   subst e
   show Paired _ (if jt k j=true then (k,x):: (j,u):: r else (j,u):: jx k x r) (if jt k j=true then (k,y):: (j,v):: r' else (j,v):: jx k y r')
   by_cases z:jt k j=true
   ·rw [if_pos z,if_pos z]; exact .cons ⟨rfl,h⟩ (.cons ⟨rfl,h1⟩ t)
   ·rw [if_neg z,if_neg z]; exact .cons ⟨rfl,h1⟩ (ka h t)
theorem eX {α β:Type}{R:α->β->Prop}:∀ {l:List (Ky × α)}{m:List (Ky × β)},Paired (fun a b=>a.1=b.1∧R a.2 b.2) l m->Paired (fun a b=>a.1=b.1∧R a.2 b.2) (cw l) (cw m)
 | _,_,.nil=>.nil
 | _,_,.cons (a:=(j,u)) (b:=(j',v)) (l₁:=r) (l₂:=r') h0 t=>by
   obtain ⟨e,h1⟩:=h0
   have e:j=j':=e
   subst e
   exact ka h1 (eX t)
theorem ia {α β:Type}{R:α->β->Prop}:∀ {l:List (Ky × α)}{m:List (Ky × β)},Paired (fun a b=>a.1=b.1∧R a.2 b.2) l m->Paired R (l.map (·.2)) (m.map (·.2))
 | _,_,.nil=>.nil
 | _,_,.cons h t=>.cons h.2 (ia t)
theorem jl {R:V->Tm->Prop}:∀ {xs:List V}{es:List Tm},Paired R xs es->Paired (fun a b=>a.1=b.1∧R a.2 b.2) ((es.map eM).zip xs) (es.map fun e=>(eM e,e))
 | _,_,.nil=>.nil
 | _,_,.cons h t=>.cons ⟨rfl,h⟩ (jl t)
theorem jL:∀ {xs:List V}{es:List Tm}{H:Hp}{R:List V->Hp->Prop},aZ H xs es →
 (∀ ks H2,aA H H2->Paired (fun x e=>∃ a b,x = .ref a∧H2 a=some (.tup [.int e.1.length,.ref b])∧H2 b=some (.tup (e.1.map V.int))) ks es->R ks H2)->jO spPlaceOf xs H R
 | _,_,H,R,.nil,h=>h [] H (aA.refl _) .nil
 | _,_,H,R,.cons (b:=e) h0 t,h=>by
   obtain ⟨a,pr,nu,rfl,ha,hpr,hnu⟩:=h0
   refine ⟨a,pr,.ref nu,_,rfl,ha,hpr,fun tt htt=>?_⟩
   rw [List.length_map]
   have sU:aA H (upd H tt (.tup [.int e.1.length,.ref pr])):=ak htt
   refine jL (aZ.keep t (aB.of sU)) fun ks H2 s2 hk=>h _ H2 (fun b u z=>s2 _ _ (sU _ _ z)) (.cons ⟨tt,pr,rfl,s2 _ _ ag,s2 _ _ (sU _ _ hpr)⟩ hk)
theorem lZ {K:Frag}{H:Hp}:∀ {ks:List V}{es:List Tm},Paired (fun x e=>∃ a b,x = .ref a∧H a=some (.tup [.int e.1.length,.ref b])∧H b=some (.tup (e.1.map V.int))) ks es->cp K H ks (es.map eM)
 | _,_,.nil=>True.intro
 | _,_,.cons h t=>by
   obtain ⟨a,b,rfl,h1,h2⟩:=h
   exact ⟨⟨a,b,[],rfl,bg.of h1,bg.of h2⟩,lZ t⟩
theorem qT {d:List Tm}(h:(d.map (·.1)).Nodup)(f:Tm->Bool):((d.filter f).map eM).Nodup:=by
 have h1:((d.filter f).map (·.1)).Nodup:=h.sublist (List.filter_sublist.map _)
 have e:(d.filter f).map eM=((d.filter f).map (·.1)).map fun k=>((k.length:Int),k):=by rw [List.map_map]; rfl
 rw [e]
 unfold List.Nodup at h1 ⊢
 rw [List.pairwise_map]
 exact h1.imp fun h z=>h (Prod.mk.inj z).2
theorem fh {d:List Tm}(h:(d.map (·.1)).Nodup):∀ {e e':Tm},e∈d->e'∈d->e.1=e'.1->e=e':=by
 induction d with
 | nil=>intro e e' h1; exact nomatch h1
 | cons a d ih =>
   rw [List.map_cons,List.nodup_cons] at h
   intro e e' h1 h2 z
   rcases List.mem_cons.mp h1 with h3 | h3
   ·rcases List.mem_cons.mp h2 with h4 | h4
    ·rw [h3,h4]
    ·exact absurd (by rw [← h3,z]; exact List.mem_map_of_mem (f:=(·.1)) h4) h.1
   ·rcases List.mem_cons.mp h2 with h4 | h4
    ·exact absurd (by rw [← h4,← z]; exact List.mem_map_of_mem (f:=(·.1)) h3) h.1
    ·exact ih h.2 h3 h4 z
variable {P:Program}{w:World}{K:PySem.W.Frag}{mg:Str->Option Value}{base:Heap}
theorem wV {f fp fo C:Addr}{fd fdp fdo:FuncData}(F:Fun K "gathered" "gathered" uE f fd)(c:FieldK K mg C)(m_sorted:mg "sorted"=none)
 (FPl:FnOk P w K mg base (bh P w) 4 fp fdp ["self","one","other"] (xR C gK))(bPl:L2.ay K fdp ["self","one","other"] [])(mPl:L2.Meth K C "plus" fp)
 (FPo:FnOk P w K mg base (bh P w) 1 fo fdo ["term"] spPlaceOf)(bPo:L2.ay K fdo ["term"] [])(mPo:mg "place_of_term"=some (.ref fo)):FnOk P w K mg base (bh P w) 5 f fd ["field","terms"] (pk C):=by
 refine F.okN gy (fun vs H Q E h=>?_) (fun cdv A outer s H vs Q E hr h=>?_)
 ·obtain ⟨s,dx,l,p,ys,ts,m,rfl,_⟩:=h
  rfl
 ·obtain ⟨s0,dx,l,p,ys,ts,m,rfl,hs,hp,hl,hts,h64,hG,hm,hm2,q⟩:=h
  have hr4:Room 4 _:=hr.mono (by decide)
  have hrS:Room 3 _:=hr.mono (by decide)
  have hu:=(hr.units:_ + 64 < cLine)
  replace hu:=Nat.lt_of_le_of_lt (Nat.add_le_add_left (by decide:1≤64) _) hu
  refine ⟨_,(ai (@aJ _ _ 2 _ _ _ _ gy.nd rfl (Or.inl rfl) mJ rfl (Or.inl rfl))
   (ai (dS PassesOwn.never rfl (cW (pv 1)) (cH rfl (aN (aG (i:=3) gy.nd rfl (Or.inl rfl)) (aN (aG (i:=4) gy.nd rfl (Or.inl rfl)) b7)))
   (ai (bt (y7 (yR hu (pv 3) (pv 2))) (aq (@aJ _ _ 4 _ _ _ _ gy.nd rfl (Or.inl rfl) (lH (pv 0) c.cl mPl FPl hr4 bPl .nil ae (@aj _ _ _ _ _ (kY hu (pv 2) (pv 3) (fun _ _=>rfl)) (@aj _ _ _ _ _ (pv 4) af rfl) rfl)) rfl (Or.inl rfl))) aO)
   (aq (qo hu (pv 2) (pv 3) (pv 4) (by rfl)))))
   (ai (g9 (i:=5) (g:=uP K 2 (eK (cc 0) (eK (cc 1) gNil))) (N:=["product","number"]) (nl:=2) (js:=[]) (osc:=ao uE) ⟨rfl,rfl,by decide +kernel,by decide +kernel,by decide +kernel,rfl,.nil,by decide +kernel⟩ rfl gy.nd rfl (Or.inl rfl)
    (vz (pv 2))
    (fun C fp s H=>(cH (X:=d8 _ ["product","number"] _ C fp s H) rfl (aN (aG (X:=d8 _ ["product","number"] _ C fp s H) (i:=0) (by show (["product","number"]:List Str).Nodup; decide +kernel) rfl (Or.inl rfl) (Or.inr rfl)) (aN (aG (X:=d8 _ ["product","number"] _ C fp s H) (i:=1) (by show (["product","number"]:List Str).Nodup; decide +kernel) rfl (Or.inl rfl) (Or.inr rfl)) b7))))
    (fun C fp s H=>(hX (@aE _ _ _ _ _ _ _ _ dw (@aK _ _ _ _ _ _ _ (show zZ _ (Ag K) from aS) (pv 1) ah (fun _ _=>rfl)) ah (ax _))))
    (fun C fp s H=>(@bK _ _ _ _ _ (@aj _ _ _ _ _ (pv 0) (@aj _ _ _ _ _ (pv 1) af rfl) rfl))) (by rfl))
   (aq (az (vb FPo hrS bPo (by rfl) m_sorted (by rfl) mPo (pv 5))))))),?_⟩
  have hlen:=hts.length
  have gg:∀ i,i≤ts.length->nX p 4000 (aM p (ts.take i))∧((aM p (ts.take i)).map (·.1)).Nodup∧(aM p (ts.take i)).length≤i:=fun i hi=>by
   obtain ⟨g1,g2,g3⟩:=d0 (m:=m) hp i (ts.take i) (by simp; omega) fun t ht=>hG t (List.mem_of_mem_take ht)
   refine ⟨fun e he=>?_,g2,g3⟩
   have b:=g1 e he
   have le:(m + 1) * i + 7≤4000:=Nat.le_trans (Nat.add_le_add_right (Nat.mul_le_mul_left _ hi) _) hm
   exact ⟨b.1,b.2.1.mono le,b.2.2.mono le⟩
  refine fun dd hdd=>?_
  have s1:aA H (upd H dd (.dT [])):=ak hdd
  refine ⟨_,rfl,l,rfl,⟨ys,a7.of (s1 _ _ hl)⟩,?_⟩
  refine ⟨fun i m σ' H'=>m=ts.length - i∧i≤ts.length∧aA H H'∧(∃ kvs,H' dd=some (.dT kvs)∧DR H' kvs (aM p (ts.take i)))∧∃ o3 o4,σ'=[some (.ref s0),some (.ref l),some (.ref dd),o3,o4,none],
   ⟨ts.length,by simp,Nat.zero_le _,s1,⟨[],ag,.nil⟩,none,none,rfl⟩,?_⟩
  rintro i m' σ' H' ⟨rfl,hi,sH,⟨kvs,hd,dr⟩,o3,o4,rfl⟩
  have hl':=sH _ _ hl
  have hs':=sH _ _ hs
  obtain ⟨gd,gnd,gl⟩:=gg i hi
  by_cases hlt:i < ts.length
  ·have hly:i < ys.length:=by omega
   refine .inr ⟨⟨ys,ys[i],a7.of hl',by simp [hly]⟩,fun σ' H'=>i + 1≤ts.length∧aA H H'∧(∃ kvs,H' dd=some (.dT kvs)∧DR H' kvs (aM p (ts.take (i + 1))))∧∃ o3 o4,σ'=[some (.ref s0),some (.ref l),some (.ref dd),o3,o4,none],?_,fun y H2 hy=>?_⟩
   ·rintro σ' H' ⟨h1,h2,h3,h4⟩
    exact ⟨ts.length - (i + 1),by omega,rfl,h1,h2,h3,h4⟩
   ·obtain ⟨rfl,hy⟩:=hy
    obtain ⟨t,et,tr⟩:=bH hts (hy ys (a7.of hl'))
    obtain ⟨a,pr,nu,rfl,ha,hpr,hnu⟩:=tr.keep (aB.of sH)
    have gt:=hG t (List.mem_of_getElem? et)
    have esn:ts.take (i + 1)=ts.take i++[t]:=by rw [List.take_add_one,et]; rfl
    have hpr':∀ H3:Hp,aB H2 H3->H3 pr=some (.tup ((gT t.1).map kV)):=fun H3 k=>by rw [gF]; exact k _ _ hpr
    have fin:∀ (H3:Hp)(an:Addr),aA H H3->aB H2 H3->H3 dd=some (.dT kvs)->((aM p (ts.take i)).any (fun e=>decide (e.1=t.1))=false->H3 an=some (bA t.2.1 t.2.2)) →
     (∀ e∈aM p (ts.take i),e.1=t.1->H3 an=some (bA (cI p e.2 t.2).1 (cI p e.2 t.2).2)) →
     aA H (upd H3 dd (.dT (dA kvs (gT t.1) (.ref an))))∧∃ kvs',(upd H3 dd (.dT (dA kvs (gT t.1) (.ref an)))) dd=some (.dT kvs')∧DR (upd H3 dd (.dT (dA kvs (gT t.1) (.ref an)))) kvs' (aM p (ts.take (i + 1))):=by
     intro H3 an s3 k3 h3 hno hyes
     refine ⟨fun b u e=>by rw [ar (au e hdd)]; exact s3 b u e,_,ag,?_⟩
     rw [esn,gA]
     exact (vG (dr.keep k3) gnd hno hyes).keep (aB.upd fun xs z=>by rw [h3] at z; cases z)
    have klen:kvs.length < sizeLine:=by
     rw [dr.length]
     exact Nat.lt_of_le_of_lt gl (Nat.lt_trans (Nat.lt_of_le_of_lt hi h64) (by decide))
    refine ⟨a,_,rfl,bg.of ha,rfl,_,_,rfl,_,_,rfl,rfl,?_⟩
    refine ⟨_,rfl,_,rfl,dd,_,rfl,gb.t hd (hpr' _ fun _ _ e=>e),_,rfl,?_⟩
    cases hq:(aM p (ts.take i)).any (fun e=>decide (e.1=t.1)) with
    | false =>
      rw [pZ t.1 dr hq]
      refine cq ?_
      refine ⟨_,rfl,_,rfl,_,rfl,dd,_,rfl,mU.t hd (hpr' _ fun _ _ e=>e) klen,?_⟩
      obtain ⟨f1,f2⟩:=fin H2 nu sH (fun _ _ e=>e) hd (fun _=>hnu) fun e he z=>by
       have:(aM p (ts.take i)).any (fun e=>decide (e.1=t.1))=true:=List.any_eq_true.mpr ⟨e,he,by simpa using z⟩
       rw [hq] at this; cases this
      exact ⟨hlt,f1,f2,_,_,rfl⟩
    | true =>
      obtain ⟨e,he,ek,a0,hv,ha0⟩:=ib t.1 dr hq
      rw [hv]
      refine cf ?_
      have ge:=gd e he
      refine ⟨_,rfl,s0,dx,_,rfl,hs',rfl,_,rfl,_,rfl,dd,_,rfl,(by rw [← hv]; exact gb.t hd (hpr' _ fun _ _ e=>e)),_,rfl,s0,dx,a0,nu,p,e.2.1,e.2.2,t.2.1,t.2.2,rfl,hs',hp,ha0,hnu,
       ge.2.1,ge.2.2,gt.2.1.mono hm2,gt.2.2.mono hm2,ge.ne,gt.ne,fun a1 ha1=>?_⟩
      have sU:aA H2 (upd H2 a1 (bA (cI p e.2 t.2).1 (cI p e.2 t.2).2)):=ak ha1
      refine ⟨_,rfl,_,rfl,_,rfl,dd,_,rfl,mU.t (sU _ _ hd) (hpr' _ (aB.of sU)) klen,?_⟩
      obtain ⟨f1,f2⟩:=fin _ a1 (fun b u z=>sU _ _ (sH _ _ z)) (aB.of sU) (sU _ _ hd) (fun z=>by rw [hq] at z; cases z) fun e' he' z=>by
       have:e'=e:=fh gnd he' he (z.trans ek.symm)
       subst this
       exact ag
      exact ⟨hlt,f1,f2,_,_,rfl⟩
  ·have ei:i=ts.length:=by omega
   subst ei
   refine .inl ⟨⟨ys,a7.of hl',by omega⟩,?_⟩
   rw [List.take_length] at dr gd gnd gl
   refine ⟨_,rfl,dd,kvs,rfl,.inr ⟨hd,fun o=>?_⟩⟩
   have sF:aA H (upd H' dd (lL o kvs)):=fun b u e=>by rw [ar (au e hdd)]; exact sH b u e
   have drF:DR (upd H' dd (lL o kvs)) kvs (aM p ts):=dr.keep (aB.upd fun xs z=>by rw [hd] at z; cases z)
   have kl:kvs.length=(aM p ts).length:=dr.length
   refine ⟨fun i m xs σ' H2=>m=(aM p ts).length - i∧i≤(aM p ts).length∧aA H H2∧H2 dd=some (lL o kvs)∧DR H2 kvs (aM p ts)∧aZ H2 xs (((aM p ts).take i).filter fun e=>e.2.1 != 0)∧∃ o1 o2,σ'=[o1,o2],
    ⟨(aM p ts).length,by simp,Nat.zero_le _,sF,ag,drF,.nil,none,none,rfl⟩,?_⟩
   rintro i m' xs σ' H2 ⟨rfl,hi2,s2,hd2,dr2,hx2,o1,o2,rfl⟩
   have xl:xs.length≤(aM p ts).length:=by
    rw [hx2.length]
    exact Nat.le_trans (List.length_filter_le _ _) (by simp; omega)
   refine ⟨Nat.lt_of_le_of_lt (Nat.le_trans xl gl) (Nat.lt_trans h64 (by decide)),?_⟩
   by_cases hlt2:i < (aM p ts).length
   ·refine .inr ⟨⟨by omega,hd2⟩,fun x H3 hx=>?_⟩
    obtain ⟨pp,b,k,v,hk,hpp,hb,rfl,rfl⟩:=hx
    obtain ⟨e,ee,ek,a,ev,ha⟩:=bH dr2 hk
    have ek:k=gT e.1:=ek
    have ev:v = .ref a:=ev
    subst ek
    subst ev
    have sP:aA H2 (upd H2 pp (.tup [.ref b,.ref a])):=ak hpp
    have esn:(aM p ts).take (i + 1)=(aM p ts).take i++[e]:=by rw [List.take_add_one,ee]; rfl
    rw [gF] at hb
    refine ⟨pp,_,rfl,bg.of ag,rfl,_,_,rfl,_,_,rfl,rfl,?_⟩
    refine ⟨_,rfl,a,_,0,_,rfl,rfl,bg.of (sP _ _ ha),rfl,rfl,_,rfl,?_⟩
    have dP:upd H2 pp (.tup [.ref b,.ref a]) dd=some (lL o kvs):=sP _ _ hd2
    cases hz:(e.2.1 != 0) with
    | true =>
      have z:(!decide (V.int e.2.1=V.int 0))=true:=by
       have:e.2.1≠0:=by simpa using hz
       simp [this]
      rw [z]
      refine cf ⟨_,rfl,_,rfl,f9,fun t' ht'=>?_⟩
      have sT:aA (upd H2 pp (.tup [.ref b,.ref a])) (upd (upd H2 pp (.tup [.ref b,.ref a])) t' (.tup [.ref b,.ref a])):=ak ht'
      have sA:aA H2 (upd (upd H2 pp (.tup [.ref b,.ref a])) t' (.tup [.ref b,.ref a])):=fun c u e=>sT _ _ (sP _ _ e)
      refine ⟨(aM p ts).length - (i + 1),by omega,rfl,hlt2,fun c u e=>sA _ _ (s2 _ _ e),sA _ _ hd2,dr2.keep (aB.of sA),?_,_,_,rfl⟩
      rw [esn,List.filter_append]
      have ef:[e].filter (fun e=>e.2.1 != 0)=[e]:=by simp [hz]
      rw [ef]
      exact Paired.snoc (aZ.keep hx2 (aB.of sA)) ⟨t',b,a,rfl,ag,sA _ _ hb,sA _ _ ha⟩
    | false =>
      have z:(!decide (V.int e.2.1=V.int 0))=false:=by
       have:e.2.1=0:=by simpa using hz
       simp [this]
      rw [z]
      refine cq ⟨(aM p ts).length - (i + 1),by omega,rfl,hlt2,fun c u e=>sP _ _ (s2 _ _ e),sP _ _ hd2,dr2.keep (aB.of sP),?_,_,_,rfl⟩
      rw [esn,List.filter_append]
      have ef:[e].filter (fun e=>e.2.1 != 0)=[]:=by simp [hz]
      rw [ef,List.append_nil]
      exact aZ.keep hx2 (aB.of sP)
   ·have ei2:i=(aM p ts).length:=by omega
    subst ei2
    refine .inl ⟨⟨by omega,hd2⟩,fun D hD=>?_⟩
    rw [List.take_length] at hx2
    have sD:aA H2 (upd H2 D (.lst xs)):=ak hD
    refine ⟨_,rfl,D,xs,rfl,a7.of ag,Nat.lt_of_le_of_lt (Nat.le_trans xl gl) h64,?_⟩
    refine jL (aZ.keep hx2 (aB.of sD)) fun ks H3 s3 hk=>?_
    refine ⟨_,lZ hk,qT gnd _,fun D2 hD2=>?_⟩
    have sE:aA H3 (upd H3 D2 (.lst ((cw ((((aM p ts).filter fun e=>e.2.1 != 0).map eM).zip xs)).map (·.2)))):=ak hD2
    refine q _ D2 _ (fun c u e=>sE _ _ (s3 _ _ (sD _ _ (s2 _ _ e)))) (none_of (fun c u e=>s3 _ _ (sD _ _ (s2 _ _ e))) hD2) ag ?_
    have hx3:aZ H3 xs ((aM p ts).filter fun e=>e.2.1 != 0):=aZ.keep hx2 (aB.of fun c u e=>s3 _ _ (sD _ _ e))
    exact aZ.keep (ia (eX (jl hx3))) (aB.of sE)
abbrev kn:Stmt:=(aY 43)
def spLGath:Sp:=fun vs H Q _=>∃ (l:Addr)(p:Int)(ys:List V)(ts:List Tm)(m:Nat),vs=[.int p,.ref l]∧FP p∧H l=some (.lst ys)∧aZ H ys ts∧ts.length < 64 ∧
 (∀ t∈ts,Gn p m t.2)∧(m + 1) * ts.length + 7≤4000∧m≤4000∧∀ H' D zs,aA H H'->H' D=some (.lst zs)->aZ H' zs (cP (aM p ts))->Q (.ref D) H'
theorem fZ:FnScope ["_law_prime_here","_law_terms_here","_law_found","_law_product","_law_number_here","_law_rows"] ["_law_prime_here","_law_terms_here"] (ao kn):=dB (by decide +kernel)
def wI (H:Hp)(x:V)(e:Tm):Prop:=∃ t b a,x = .ref t∧H t=some (.tup [.int e.1.length,.ref b,.ref a])∧H b=some (.tup (e.1.map V.int))∧H a=some (bA e.2.1 e.2.2)
theorem wI.keep {H H':Hp}{y:V}{t:Tm}(h:wI H y t)(k:aB H H'):wI H' y t:=let ⟨a,pr,nu,e,h1,h2,h3⟩:=h; ⟨a,pr,nu,e,k _ _ h1,k _ _ h2,k _ _ h3⟩
abbrev eP (H:Hp):List V->List Tm->Prop:=Paired (wI H)
theorem eP.keep {H H':Hp}{ys:List V}{ts:List Tm}(h:eP H ys ts)(k:aB H H'):eP H' ys ts:=Paired.mapP h fun _ _ z=>z.keep k
theorem jT {K:Frag}{H:Hp}:∀ {ks:List V}{es:List Tm},eP H ks es->cp K H ks (es.map eM)
 | _,_,.nil=>True.intro
 | _,_,.cons h t=>by
   obtain ⟨t0,b,a,rfl,h1,h2,h3⟩:=h
   exact ⟨⟨t0,b,[.ref a],rfl,bg.of h1,bg.of h2⟩,jT t⟩
theorem vd {f fl:Addr}{fd fdl:FuncData}(F:Fun K "_law_gather" "_law_gather" kn f fd)(m_sorted:mg "sorted"=none)(m_len:mg "len"=none)
 (FLp:FnOk P w K mg base (bh P w) 3 fl fdl ["_law_prime_here","_law_one","_law_other"] (ij gK))(bLp:L2.ay K fdl ["_law_prime_here","_law_one","_law_other"] [])(mLp:mg "_law_plus"=some (.ref fl))(kLp:keepIn K (.ref fl)=true):
 FnOk P w K mg base (bh P w) 4 f fd ["_law_prime_here","_law_terms_here"] spLGath:=by
 refine F.okN fZ (fun vs H Q E h=>?_) (fun cdv A outer s H vs Q E hr h=>?_)
 ·obtain ⟨l,p,ys,ts,m,rfl,_⟩:=h
  rfl
 ·obtain ⟨l,p,ys,ts,m,rfl,hp,hl,hts,h64,hG,hm,hm2,q⟩:=h
  have hr3:Room 3 _:=hr.mono (by decide)
  have hrS:Room (1 + 2) _:=hr.mono (by decide)
  have hr1:Room 1 _:=hr.mono (by decide)
  have hu:=(hr.units:_ + 64 < cLine)
  replace hu:=Nat.lt_of_le_of_lt (Nat.add_le_add_left (by decide:1≤64) _) hu
  refine ⟨_,(ai (@aJ _ _ 2 _ _ _ _ fZ.nd rfl (Or.inr rfl) mJ rfl (Or.inl rfl))
   (ai (dS PassesOwn.never rfl (cW (pv 1)) (cH rfl (aN (aG (i:=3) fZ.nd rfl (Or.inl rfl)) (aN (aG (i:=4) fZ.nd rfl (Or.inl rfl)) b7)))
   (aq (qo hu (pv 2) (pv 3) (av FLp hr3 (by rfl) mLp kLp bLp .nil ae (@aj _ _ _ _ _ (pv 0) (@aj _ _ _ _ _ (vJ hu (pv 2) (pv 3) (@bK _ _ _ _ _ (@aj _ _ _ _ _ ah (@aj _ _ _ _ _ ah af rfl) rfl)) ⟨rfl,rfl,rfl,rfl⟩) (@aj _ _ _ _ _ (pv 4) af rfl) rfl) rfl)) (by rfl))))
   (ai (g9 (i:=5) (N:=["_law_product","_law_found"]) (nl:=1) (js:=[2]) (osc:=ao kn) ⟨rfl,rfl,by decide +kernel,by decide +kernel,by decide +kernel,rfl,(.cons ⟨rfl,by decide +kernel⟩ .nil),by decide +kernel⟩ rfl fZ.nd rfl (Or.inl rfl)
    (xD (pv 2))
    (fun C fp s H=>aG (i:=0) (by show (["_law_product","_law_found"]:List Str).Nodup; decide +kernel) rfl (Or.inl rfl) (Or.inr rfl))
    (fun C fp s H=>(hX (@aE _ _ _ _ _ _ _ _ (show dz _ _ (zm K true) from pj hr1) (kY hu (pv 1) (pv 0) (fun _ _=>rfl)) (@bK _ _ _ _ _ (@aj _ _ _ _ _ ah (@aj _ _ _ _ _ ah af rfl) rfl)) (ax _))))
    (fun C fp s H=>(@bK _ _ _ _ _ (@aj _ _ _ _ _ (aH (show cy _ _ (fun xs H Q=>∃ p ys,xs=[.ref p]∧(a7 K H p ys∨bg K H p ys)∧Q (.int ys.length) H) from bD) (by rfl) m_len PySem.boot_len (@aj _ _ _ _ _ (pv 0) af rfl)) (@aj _ _ _ _ _ (pv 0) (@aj _ _ _ _ _ (kY hu (pv 1) (pv 0) (fun _ _=>rfl)) af rfl) rfl) rfl))) (by rfl))
   (aq (az (dG (g:=uP K 3 (eK (cc 0) (eK (cc 1) (eK (cc 2) gNil)))) (N:=["_law_many","_law_product","_law_number_here"]) (nl:=3) (js:=[]) (osc:=ao kn) ⟨rfl,rfl,by decide +kernel,by decide +kernel,by decide +kernel,rfl,.nil,by decide +kernel⟩ rfl
    (cW (aH (lQ hrS) (by rfl) m_sorted (by rfl) (@aj _ _ _ _ _ (pv 5) af rfl)))
    (fun C fp s H=>(cH (X:=d8 _ ["_law_many","_law_product","_law_number_here"] _ C fp s H) rfl (aN (aG (X:=d8 _ ["_law_many","_law_product","_law_number_here"] _ C fp s H) (i:=0) (by show (["_law_many","_law_product","_law_number_here"]:List Str).Nodup; decide +kernel) rfl (Or.inl rfl) (Or.inr rfl)) (aN (aG (X:=d8 _ ["_law_many","_law_product","_law_number_here"] _ C fp s H) (i:=1) (by show (["_law_many","_law_product","_law_number_here"]:List Str).Nodup; decide +kernel) rfl (Or.inl rfl) (Or.inr rfl)) (aN (aG (X:=d8 _ ["_law_many","_law_product","_law_number_here"] _ C fp s H) (i:=2) (by show (["_law_many","_law_product","_law_number_here"]:List Str).Nodup; decide +kernel) rfl (Or.inl rfl) (Or.inr rfl)) b7)))))
    (fun C fp s H=>dE)
    (fun C fp s H=>(@bK _ _ _ _ _ (@aj _ _ _ _ _ (pv 1) (@aj _ _ _ _ _ (pv 2) af rfl) rfl))))))))),?_⟩
  have hlen:=hts.length
  have gg:∀ i,i≤ts.length->nX p 4000 (aM p (ts.take i))∧((aM p (ts.take i)).map (·.1)).Nodup∧(aM p (ts.take i)).length≤i:=fun i hi=>by
   obtain ⟨g1,g2,g3⟩:=d0 (m:=m) hp i (ts.take i) (by simp; omega) fun t ht=>hG t (List.mem_of_mem_take ht)
   refine ⟨fun e he=>?_,g2,g3⟩
   have b:=g1 e he
   have le:(m + 1) * i + 7≤4000:=Nat.le_trans (Nat.add_le_add_right (Nat.mul_le_mul_left _ hi) _) hm
   exact ⟨b.1,b.2.1.mono le,b.2.2.mono le⟩
  have one:∀ {n:Nat}{a:Int × Int},Gn p n a->p≠0->a.2=1:=fun h z=>(h.1.pr z).1
  refine fun dd hdd=>?_
  have s1:aA H (upd H dd (.dT [])):=ak hdd
  refine ⟨_,rfl,l,rfl,⟨ys,a7.of (s1 _ _ hl)⟩,?_⟩
  refine ⟨fun i m σ' H'=>m=ts.length - i∧i≤ts.length∧aA H H'∧(∃ kvs,H' dd=some (.dT kvs)∧DR H' kvs (aM p (ts.take i)))∧∃ o3 o4,σ'=[some (.int p),some (.ref l),some (.ref dd),o3,o4,none],
   ⟨ts.length,by simp,Nat.zero_le _,s1,⟨[],ag,.nil⟩,none,none,rfl⟩,?_⟩
  rintro i m' σ' H' ⟨rfl,hi,sH,⟨kvs,hd,dr⟩,o3,o4,rfl⟩
  have hl':=sH _ _ hl
  obtain ⟨gd,gnd,gl⟩:=gg i hi
  by_cases hlt:i < ts.length
  ·have hly:i < ys.length:=by omega
   refine .inr ⟨⟨ys,ys[i],a7.of hl',by simp [hly]⟩,fun σ' H'=>i + 1≤ts.length∧aA H H'∧(∃ kvs,H' dd=some (.dT kvs)∧DR H' kvs (aM p (ts.take (i + 1))))∧∃ o3 o4,σ'=[some (.int p),some (.ref l),some (.ref dd),o3,o4,none],?_,fun y H2 hy=>?_⟩
   ·rintro σ' H' ⟨h1,h2,h3,h4⟩
    exact ⟨ts.length - (i + 1),by omega,rfl,h1,h2,h3,h4⟩
   ·obtain ⟨rfl,hy⟩:=hy
    obtain ⟨t,et,tr⟩:=bH hts (hy ys (a7.of hl'))
    obtain ⟨a,pr,nu,rfl,ha,hpr,hnu⟩:=tr.keep (aB.of sH)
    have gt:=hG t (List.mem_of_getElem? et)
    have esn:ts.take (i + 1)=ts.take i++[t]:=by rw [List.take_add_one,et]; rfl
    have hpr':∀ H3:Hp,aB H2 H3->H3 pr=some (.tup ((gT t.1).map kV)):=fun H3 k=>by rw [gF]; exact k _ _ hpr
    have fin:∀ (H3:Hp)(an:Addr),aA H H3->aB H2 H3->H3 dd=some (.dT kvs)->((aM p (ts.take i)).any (fun e=>decide (e.1=t.1))=false->H3 an=some (bA t.2.1 t.2.2)) →
     (∀ e∈aM p (ts.take i),e.1=t.1->H3 an=some (bA (cI p e.2 t.2).1 (cI p e.2 t.2).2)) →
     aA H (upd H3 dd (.dT (dA kvs (gT t.1) (.ref an))))∧∃ kvs',(upd H3 dd (.dT (dA kvs (gT t.1) (.ref an)))) dd=some (.dT kvs')∧DR (upd H3 dd (.dT (dA kvs (gT t.1) (.ref an)))) kvs' (aM p (ts.take (i + 1))):=by
     intro H3 an s3 k3 h3 hno hyes
     refine ⟨fun b u e=>by rw [ar (au e hdd)]; exact s3 b u e,_,ag,?_⟩
     rw [esn,gA]
     exact (vG (dr.keep k3) gnd hno hyes).keep (aB.upd fun xs z=>by rw [h3] at z; cases z)
    have klen:kvs.length < sizeLine:=by
     rw [dr.length]
     exact Nat.lt_of_le_of_lt gl (Nat.lt_trans (Nat.lt_of_le_of_lt hi h64) (by decide))
    refine ⟨a,_,rfl,bg.of ha,rfl,_,_,rfl,_,_,rfl,rfl,?_⟩
    refine ⟨_,rfl,_,rfl,dd,rfl,.inr ⟨kvs,.inl hd⟩,_,rfl,f9,fun t0 ht0=>?_⟩
    have sZ:aA H2 (upd H2 t0 (.tup [.int 0,.int 1])):=ak ht0
    refine ⟨_,gb.t (sZ _ _ hd) (hpr' _ (aB.of sZ)),?_⟩
    cases hq:(aM p (ts.take i)).any (fun e=>decide (e.1=t.1)) with
    | false =>
      rw [pZ t.1 dr hq]
      refine ⟨_,rfl,p,0,1,t.2.1,t.2.2,t0,nu,rfl,hp,ag,sZ _ _ hnu,(by unfold B; decide),(by show (1:Nat) < 2 ^ 4000; exact Nat.one_lt_two_pow (by decide)),gt.2.1.mono hm2,gt.2.2.mono hm2,(by decide),gt.ne,fun z=>by rw [one gt z]; decide,fun H3 an s3 h3=>?_⟩
      have ez:cI p (0,1) t.2=t.2:=sR hp gt
      have h3':H3 an=some (bA t.2.1 t.2.2):=by
       have:H3 an=some (bA (cI p (0,1) t.2).1 (cI p (0,1) t.2).2):=h3
       rw [ez] at this
       exact this
      have sA:aA H2 H3:=fun b u e=>s3 _ _ (sZ _ _ e)
      refine ⟨_,rfl,_,rfl,dd,_,rfl,mU.t (sA _ _ hd) (hpr' _ (aB.of sA)) klen,?_⟩
      obtain ⟨f1,f2⟩:=fin H3 an (fun b u e=>sA _ _ (sH _ _ e)) (aB.of sA) (sA _ _ hd) (fun _=>h3') fun e he z=>by
       have:(aM p (ts.take i)).any (fun e=>decide (e.1=t.1))=true:=List.any_eq_true.mpr ⟨e,he,by simpa using z⟩
       rw [hq] at this; cases this
      exact ⟨hlt,f1,f2,_,_,rfl⟩
    | true =>
      obtain ⟨e,he,ek,a0,hv,ha0⟩:=ib t.1 dr hq
      rw [hv]
      have ge:=gd e he
      refine ⟨_,rfl,p,e.2.1,e.2.2,t.2.1,t.2.2,a0,nu,rfl,hp,sZ _ _ ha0,sZ _ _ hnu,ge.2.1,ge.2.2,gt.2.1.mono hm2,gt.2.2.mono hm2,ge.ne,gt.ne,fun z=>by rw [one gt z,one ge z]; decide,fun H3 an s3 h3=>?_⟩
      have sA:aA H2 H3:=fun b u e=>s3 _ _ (sZ _ _ e)
      refine ⟨_,rfl,_,rfl,dd,_,rfl,mU.t (sA _ _ hd) (hpr' _ (aB.of sA)) klen,?_⟩
      obtain ⟨f1,f2⟩:=fin H3 an (fun b u e=>sA _ _ (sH _ _ e)) (aB.of sA) (sA _ _ hd) (fun z=>by rw [hq] at z; cases z) fun e' he' z=>by
       have:e'=e:=fh gnd he' he (z.trans ek.symm)
       subst this
       exact h3
      exact ⟨hlt,f1,f2,_,_,rfl⟩
  ·have ei:i=ts.length:=by omega
   subst ei
   refine .inl ⟨⟨ys,a7.of hl',by omega⟩,?_⟩
   rw [List.take_length] at dr gd gnd gl
   refine ⟨_,rfl,dd,kvs,rfl,.inr ⟨hd,fun o=>?_⟩⟩
   have sF:aA H (upd H' dd (lL o kvs)):=fun b u e=>by rw [ar (au e hdd)]; exact sH b u e
   have drF:DR (upd H' dd (lL o kvs)) kvs (aM p ts):=dr.keep (aB.upd fun xs z=>by rw [hd] at z; cases z)
   have kl:kvs.length=(aM p ts).length:=dr.length
   refine ⟨fun i m xs σ' H2=>m=(aM p ts).length - i∧i≤(aM p ts).length∧aA H H2∧H2 dd=some (lL o kvs)∧DR H2 kvs (aM p ts)∧eP H2 xs (((aM p ts).take i).filter fun e=>e.2.1 != 0)∧∃ o1,σ'=[o1,some (.ref dd)],
    ⟨(aM p ts).length,by simp,Nat.zero_le _,sF,ag,drF,.nil,none,rfl⟩,?_⟩
   rintro i m' xs σ' H2 ⟨rfl,hi2,s2,hd2,dr2,hx2,o1,rfl⟩
   have xl:xs.length≤(aM p ts).length:=by
    rw [hx2.length]
    exact Nat.le_trans (List.length_filter_le _ _) (by simp; omega)
   refine ⟨Nat.lt_of_le_of_lt (Nat.le_trans xl gl) (Nat.lt_trans h64 (by decide)),?_⟩
   by_cases hlt2:i < (aM p ts).length
   ·refine .inr ⟨⟨by omega,hd2⟩,fun x H3 hx=>?_⟩
    obtain ⟨b,k,v,hk,hb,rfl,rfl⟩:=hx
    obtain ⟨e,ee,ek,_⟩:=bH dr2 hk
    have ek:k=gT e.1:=ek
    subst ek
    have he:=List.mem_of_getElem? ee
    have ge:=gd e he
    have esn:(aM p ts).take (i + 1)=(aM p ts).take i++[e]:=by rw [List.take_add_one,ee]; rfl
    obtain ⟨e',he',ek',a,hv,ha⟩:=ib e.1 dr2 (List.any_eq_true.mpr ⟨e,he,by simp⟩)
    have:e'=e:=fh gnd he' he ek'
    subst this
    have dg:∀ H4:Hp,aA H3 H4->gb H4 dd (.ref b) (some (.ref a)):=fun H4 s4=>.inr ⟨kvs,gT e'.1,b,.inr ⟨o,s4 _ _ hd2⟩,rfl,s4 _ _ hb,hv.symm⟩
    have hb':=hb
    rw [gF] at hb'
    refine ⟨_,rfl,_,rfl,dd,.ref a,rfl,dg _ (aA.refl _),f9,fun t0 ht0=>?_⟩
    have sZ:aA H3 (upd H3 t0 (bA 0 1)):=ak ht0
    refine ⟨_,_,zh (sZ _ _ ha),zh ag,by rw [Aw]; decide,_,rfl,?_⟩
    rw [BB]
    cases hz:(e'.2.1 != 0) with
    | true =>
      have z:((e'.2.1 == 0&&e'.2.2 == 1) != true)=true:=by
       have:e'.2.1≠0:=by simpa using hz
       simp [this]
      rw [z]
      refine cf ⟨_,rfl,b,_,rfl,.inr (bg.of (sZ _ _ hb')),_,rfl,_,rfl,_,rfl,dd,.ref a,rfl,dg _ sZ,zw,fun t' ht'=>?_⟩
      rw [List.length_map]
      have sT:aA (upd H3 t0 (bA 0 1)) (upd (upd H3 t0 (bA 0 1)) t' (.tup [.int e'.1.length,.ref b,.ref a])):=ak ht'
      have sA:aA H3 (upd (upd H3 t0 (bA 0 1)) t' (.tup [.int e'.1.length,.ref b,.ref a])):=fun c u e=>sT _ _ (sZ _ _ e)
      refine ⟨(aM p ts).length - (i + 1),by omega,rfl,hlt2,fun c u e=>sA _ _ (s2 _ _ e),sA _ _ hd2,dr2.keep (aB.of sA),?_,_,rfl⟩
      rw [esn,List.filter_append]
      have ef:[e'].filter (fun e=>e.2.1 != 0)=[e']:=by simp [hz]
      rw [ef]
      exact Paired.snoc (eP.keep hx2 (aB.of sA)) ⟨t',b,a,rfl,ag,sA _ _ hb',sA _ _ ha⟩
    | false =>
      have z:((e'.2.1 == 0&&e'.2.2 == 1) != true)=false:=by
       have h0:e'.2.1=0:=by simpa using hz
       have h1:e'.2.2=1:=by
        have g1:=ge.1.pos
        have g2:=ge.1.red
        rw [h0] at g2
        have:e'.2.2.natAbs=1:=by simpa using g2
        omega
       simp [h0,h1]
      rw [z]
      refine cq ⟨(aM p ts).length - (i + 1),by omega,rfl,hlt2,fun c u e=>sZ _ _ (s2 _ _ e),sZ _ _ hd2,dr2.keep (aB.of sZ),?_,_,rfl⟩
      rw [esn,List.filter_append]
      have ef:[e'].filter (fun e=>e.2.1 != 0)=[]:=by simp [hz]
      rw [ef,List.append_nil]
      exact eP.keep hx2 (aB.of sZ)
   ·have ei2:i=(aM p ts).length:=by omega
    subst ei2
    refine .inl ⟨⟨by omega,hd2⟩,fun D hD=>?_⟩
    rw [List.take_length] at hx2
    have sD:aA H2 (upd H2 D (.lst xs)):=ak hD
    have hx3:=eP.keep hx2 (aB.of sD)
    refine ⟨_,rfl,D,xs,_,rfl,a7.of ag,Nat.lt_of_le_of_lt (Nat.le_trans xl gl) h64,jT hx3,qT gnd _,fun D2 hD2=>?_⟩
    have hz3:eP (upd H2 D (.lst xs)) ((cw ((((aM p ts).filter fun e=>e.2.1 != 0).map eM).zip xs)).map (·.2)) (cP (aM p ts)):=ia (eX (jl hx3))
    generalize (cw ((((aM p ts).filter fun e=>e.2.1 != 0).map eM).zip xs)).map (·.2)=zs at hz3 ⊢
    have zl:=hz3.length
    have tl:(cP (aM p ts)).length≤(aM p ts).length:=by
     unfold cP
     rw [List.length_map,(bO _).length_eq,List.length_map]
     exact List.length_filter_le _ _
    have sE:aA (upd H2 D (.lst xs)) (upd (upd H2 D (.lst xs)) D2 (.lst zs)):=ak hD2
    have hz4:=eP.keep hz3 (aB.of sE)
    have sHE:aA H (upd (upd H2 D (.lst xs)) D2 (.lst zs)):=fun c u e=>sE _ _ (sD _ _ (s2 _ _ e))
    have eD2:upd (upd H2 D (.lst xs)) D2 (.lst zs) D2=some (.lst zs):=ag
    generalize upd (upd H2 D (.lst xs)) D2 (.lst zs)=H4 at hz4 sHE eD2 ⊢
    refine ⟨D2,rfl,⟨zs,a7.of eD2⟩,?_⟩
    refine ⟨fun i m us σ' H5=>m=zs.length - i∧i≤zs.length∧aA H4 H5∧aZ H5 us ((cP (aM p ts)).take i)∧∃ o1 o2 o3,σ'=[o1,o2,o3],⟨zs.length,by simp,Nat.zero_le _,aA.refl _,.nil,none,none,none,rfl⟩,?_⟩
    rintro i m' us σ' H5 ⟨rfl,hi5,s5,hu5,o1,o2,o3,rfl⟩
    have ul:us.length≤zs.length:=by
     rw [hu5.length]
     simp; omega
    refine ⟨Nat.lt_of_le_of_lt (Nat.le_trans ul (Nat.le_trans (Nat.le_of_eq zl) (Nat.le_trans tl gl))) (Nat.lt_trans h64 (by decide)),?_⟩
    have eD5:=s5 _ _ eD2
    by_cases hlt5:i < zs.length
    ·refine .inr ⟨⟨zs,zs[i],a7.of eD5,by simp [hlt5]⟩,fun x H6 hx=>?_⟩
     obtain ⟨rfl,hx⟩:=hx
     obtain ⟨e,ee,er⟩:=bH hz4 (hx zs (a7.of eD5))
     obtain ⟨t0,b,a,rfl,h1,h2,h3⟩:=er.keep (aB.of s5)
     have esn:(cP (aM p ts)).take (i + 1)=(cP (aM p ts)).take i++[e]:=by rw [List.take_add_one,ee]; rfl
     refine ⟨t0,_,rfl,bg.of h1,rfl,_,_,rfl,_,_,rfl,_,_,rfl,rfl,?_⟩
     dsimp only [tYes]
     refine cf ⟨_,rfl,_,rfl,f9,fun t' ht'=>?_⟩
     have sT:aA H6 (upd H6 t' (.tup [.ref b,.ref a])):=ak ht'
     refine ⟨zs.length - (i + 1),by omega,rfl,hlt5,fun c u e=>sT _ _ (s5 _ _ e),?_,_,_,_,rfl⟩
     rw [esn]
     exact Paired.snoc (aZ.keep hu5 (aB.of sT)) ⟨t',b,a,rfl,ag,sT _ _ h2,sT _ _ h3⟩
    ·have ei5:i=zs.length:=by omega
     subst ei5
     refine .inl ⟨⟨zs,a7.of eD5,Nat.le_refl _⟩,fun D3 hD3=>?_⟩
     rw [zl,List.take_length] at hu5
     have sL:aA H5 (upd H5 D3 (.lst us)):=ak hD3
     exact q _ D3 _ (fun c u e=>sL _ _ (s5 _ _ (sHE _ _ e))) ag (aZ.keep hu5 (aB.of sL))
abbrev oG:Stmt:=ba (aY 25) 0
def AW (ks:List Int):Prop:=iG (some (ks.map V.int))=true∧ks.length < 4000
theorem wH {p t b:Int}(n:Num p t b):uC p (some (.int t,.int b))=true:=by
 unfold uC
 dsimp only
 by_cases z:p=0
 ·rw [if_pos z,n.red]
  have:=n.pos
  simp
  omega
 ·rw [if_neg z]
  obtain ⟨h1,h2,h3⟩:=n.pr z
  simp [h1,h2,h3]
theorem AC {p:Int}{n:Nat}{H:Hp}{y:V}{t:Tm}(h:zu H y t)(g:Gn p n t.2)(pd:AW t.1):TmX p H y true:=by
 obtain ⟨a,pr,nu,rfl,ha,hpr,hnu⟩:=h
 have e:TmX p H (.ref a) (iG (some (t.1.map V.int))&&uC p (some (.int t.2.1,.int t.2.2))):=.two ha (.tup hpr (by rw [List.length_map]; exact pd.2) fun y hy=>by
  obtain ⟨k,_,rfl⟩:=List.mem_map.mp hy
  exact ⟨_,.int k⟩) (.two hnu (.int _) (.int _))
 rw [pd.1,wH g.1] at e
 exact e
theorem ux {p:Int}{n:Nat}{H:Hp}:∀ {ys:List V}{ts:List Tm},aZ H ys ts->(∀ t∈ts,Gn p n t.2∧AW t.1)->∀ y∈ys,TmX p H y true
 | _,_,.nil,_,y,hy=>nomatch hy
 | _,_,.cons h t,g,y,hy=>by
   rcases List.mem_cons.mp hy with rfl | hy
   ·exact AC h (g _ List.mem_cons_self).1 (g _ List.mem_cons_self).2
   ·exact ux t (fun t ht=>g t (List.mem_cons_of_mem _ ht)) y hy
structure SumK (K:Frag)(mg:Str->Option Value)(C:Addr):Prop where
 cl:Cls K C
 nF:cR K C "its_field"
 nT:cR K C "its_terms"
 mgC:mg "Sum"=some (.ref C)
def yA (fl D:Addr):List (Str × V):=[("its_field",.ref fl),("its_terms",.ref D)]
def lG (C CF:Addr):Sp:=fun vs H Q _=>∃ (s dx fl dxf:Addr)(p:Int)(x:V)(ts:List Tm)(m:Nat),vs=[.ref s,.ref fl,x]∧H s=some (.ins C dx [])∧H fl=some (.ins CF dxf (eC p))∧FP p ∧
 ((x = .non∧ts=[])∨∃ l ys,x = .ref l∧H l=some (.lst ys)∧aZ H ys ts)∧ts.length < 64∧(∀ t∈ts,Gn p m t.2∧AW t.1)∧(m + 1) * ts.length + 7≤4000∧m≤4000 ∧
 ∀ H' D zs,SameBut s H H'->H D=none->H' s=some (.ins C dx (yA fl D))->H' D=some (.lst zs)->aZ H' zs (cP (aM p ts))->Q .non H'
theorem xy:FnScope ["self","field","terms"] ["self","field","terms"] (ao oG):=dB (by decide +kernel)
theorem ur {f fg fc C CF T:Addr}{fd fdg fdc:FuncData}(F:FunD K "__init__" "Sum.__init__" oG f fd T)(c:SumK K mg C)
 (FG:FnOk P w K mg base (bh P w) 5 fg fdg ["field","terms"] (pk CF))(bG:L2.ay K fdg ["field","terms"] [])(mG:mg "gathered"=some (.ref fg))(kG:keepIn K (.ref fg)=true)
 (FC:FnOk P w K mg base (bh P w) 5 fc fdc ["field","terms"] (j9 CF))(bC:L2.ay K fdc ["field","terms"] [])(mC:mg "checked_terms"=some (.ref fc))(kC:keepIn K (.ref fc)=true):
 FnOk P w K mg base (bh P w) 6 f fd ["self","field","terms"] (lG C CF):=by
 refine F.okE xy (fun vs H Q E h=>?_) (fun cdv A outer s H vs Q E hr h=>?_)
 ·obtain ⟨s,dx,fl,dxf,p,x,ts,m,rfl,_⟩:=h
  rfl
 ·obtain ⟨s0,dx,fl,dxf,p,x,ts,m,rfl,hs,hf,hp,hx,h64,hG,hm,hm2,q⟩:=h
  have hr5:Room 5 _:=hr.mono (by decide)
  refine ⟨_,ai (oj (pv 0) (pv 1) rfl) (aq (oj (pv 0) (av FG hr5 (by rfl) mG kG bG .nil ae (@aj _ _ _ _ _ (pv 1) (@aj _ _ _ _ _ (av FC hr5 (by rfl) mC kC bC .nil ae (@aj _ _ _ _ _ (pv 1) (@aj _ _ _ _ _ (pv 2) af rfl) rfl)) af rfl) rfl)) rfl)),?_⟩
  refine ⟨_,rfl,_,rfl,s0,C,dx,_,rfl,hs,c.cl,c.nF,by decide,?_⟩
  have nfs:fl≠s0:=fun z=>by
   rw [z,hs] at hf
   injection hf with hf
   injection hf with _ _ hf
   cases hf
  have hf1:upd H s0 (.ins C dx (cM "its_field" (.ref fl) [])) fl=some (.ins CF dxf (eC p)):=by rw [ar nfs]; exact hf
  have kT:aB H (upd H s0 (.ins C dx (cM "its_field" (.ref fl) []))):=aB.upd fun xs z=>by rw [hs] at z; cases z
  have fin:∀ (H2:Hp)(l:Addr)(ys:List V),aA (upd H s0 (.ins C dx (cM "its_field" (.ref fl) []))) H2->H2 l=some (.lst ys)->aZ H2 ys ts->pk CF [.ref fl,.ref l] H2 (fun y H1=>dJ 0 [some (.ref s0),some (.ref fl),some x] H1 fun x2 H2=>∃ a C dx fs,x2 = .ref a∧H2 a=some (.ins C dx fs)∧Cls K C∧cR K C "its_terms"∧fs.length < 1000 ∧
   Q .non (upd H2 a (.ins C dx (cM "its_terms" y fs)))) fun _ _ _=>False:=by
   intro H2 l ys s2 hl ht
   refine ⟨fl,dxf,l,p,ys,ts,m,rfl,s2 _ _ hf1,hp,hl,ht,h64,fun t ht=>(hG t ht).1,hm,hm2,fun H3 D zs s3 h0 hD hz=>?_⟩
   have hs3:H3 s0=some (.ins C dx (cM "its_field" (.ref fl) [])):=s3 _ _ (s2 _ _ ag)
   refine ⟨_,rfl,s0,C,dx,_,rfl,hs3,c.cl,c.nT,(by show 1 < 1000; decide),?_⟩
   have nD:D≠s0:=fun z=>by rw [z,hs3] at hD; cases hD
   refine q _ D zs (fun b u e nb=>?_) (none_of (fun c u e=>e) (by
    cases e:H D with
    | none=>rfl
    | some u=>rw [s2 D u (by rw [ar nD]; exact e)] at h0; cases h0)) ag (by rw [ar nD]; exact hD) (aZ.keep hz (aB.upd fun xs z=>by rw [hs3] at z; cases z))
   rw [ar nb]
   exact s3 _ _ (s2 _ _ (by rw [ar nb]; exact e))
  rcases hx with ⟨rfl,rfl⟩ | ⟨l,ys,rfl,hl,ht⟩
  ·refine ⟨_,rfl,_,rfl,_,rfl,fl,dxf,p,.non,rfl,hf1,hp,.inl ⟨rfl,fun l hl=>?_⟩⟩
   exact fin _ l [] (ak hl) ag .nil
  ·have nl:l≠s0:=fun z=>by rw [z,hs] at hl; cases hl
   have hl1:upd H s0 (.ins C dx (cM "its_field" (.ref fl) [])) l=some (.lst ys):=by rw [ar nl]; exact hl
   have ht1:=aZ.keep ht kT
   refine ⟨_,rfl,_,rfl,_,rfl,fl,dxf,p,.ref l,rfl,hf1,hp,.inr ⟨l,ys,rfl,hl1,?_,ux ht1 hG,fun H2 s2=>?_⟩⟩
   ·rw [ht.length]; omega
   ·exact fin _ l ys s2 (s2 _ _ hl1) (aZ.keep ht1 (aB.of s2))
end K05
namespace L2
open PySem PySem.Spec PyProof.Rows PySem.W
theorem ig:∀ {ns:List Int}{us:List Value},aI (ns.map V.int) us->IntsAre us ns
 | [],us,r=>by cases r; exact .nil
 | n :: ns,us,r=>by
   rw [List.map_cons] at r
   cases r with
   | cons h t =>
     obtain ⟨k,rfl⟩:=(show ∃ k,_=Value.int n k from h)
     exact .cons n k (ig t)
theorem uL:∀ {us:List Value}{ns:List Int},IntsAre us ns->aI (ns.map V.int) us
 | _,_,.nil=>.nil
 | _,_,.cons n t h=>.cons ⟨t,rfl⟩ (uL h)
end L2
namespace Mx
open PySem PyProof.Rows
end Mx
namespace L2
open PySem PySem.Spec PyProof.Rows PySem.W
end L2
namespace K05
open PySem L2 PySem.W Nm Srt
structure SumR (C CF:Addr)(H:Hp)(s:Addr)(p:Int)(ts:List Tm):Prop where
 ex:∃ dx fl dxf D zs,H s=some (.ins C dx (yA fl D))∧H fl=some (.ins CF dxf (eC p))∧H D=some (.lst zs)∧aZ H zs ts
end K05
namespace L2
open PySem PySem.Spec PyProof.Rows PySem.W
theorem m8:∀ {ts:List Str}{us:List Value},aI (ts.map V.str) us->StrsAre us ts
 | [],us,r=>by cases r; exact .nil
 | n :: ns,us,r=>by
   rw [List.map_cons] at r
   cases r with
   | cons h t =>
     obtain ⟨k,rfl⟩:=(show ∃ k,_=Value.str n k from h)
     exact .cons n k (m8 t)
section
variable {X:Cx}
def uu (K:Frag):V->List V->Hp->VK->Prop:=fun x vs H Q=>∃ (sep:Str)(l:Addr)(ts:List Str),x = .str sep∧vs=[.ref l]∧a7 K H l (ts.map V.str)∧(ts.map (·.length)).sum + ts.length * sep.length≤16777216∧Q (.str (Str.join sep ts)) H
theorem hV:AV X "str.join" (uu X.K):=by
 intro pins s σ H x vs v us Q I rx rv h
 obtain ⟨sep,l,ts,rfl,rfl,hS,hz,q⟩:=h
 obtain ⟨tk,rfl⟩:=(show ∃ tk,v=Value.str sep tk from rx)
 obtain ⟨u,rfl,ru⟩:=rv.one
 cases (show u=Value.ref l from ru)
 obtain ⟨its,r,pl,_⟩:=I.list hS
 refine join_list pl.isList (by simpa using m8 r) hz fun t' k=>?_
 refine ⟨.str (Str.join sep ts),H,I.tok _,⟨t',?_⟩,q⟩
 rw [show Txt.join sep ts=Str.join sep ts from StrLaws.glued_eq_join sep ts]
def rZfill:V->List V->Hp->VK->Prop:=fun x vs H Q=>∃ (z:Str)(i:Int),x = .str z∧vs=[.int i]∧PadOk i=true∧Q (.str (Txt.zfill z i)) H
theorem vC:AV X "str.zfill" rZfill:=by
 intro pins s σ H x vs v us Q I rx rv h
 obtain ⟨z,i,rfl,rfl,hp,q⟩:=h
 obtain ⟨tk,rfl⟩:=(show ∃ tk,v=Value.str z tk from rx)
 obtain ⟨u,rfl,ru⟩:=rv.one
 obtain ⟨t2,rfl⟩:=(show ∃ t2,u=Value.int i t2 from ru)
 exact SC.zfill hp fun t' k=>⟨.str (Txt.zfill z i),H,I.tok _,⟨t',rfl⟩,q⟩
theorem rp:cy X (.type "str") (fun xs H Q=>∃ z,xs=[.str z]∧Q (.str z) H):=by
 intro pins s σ H xs us Q I r h
 obtain ⟨z,rfl,q⟩:=h
 obtain ⟨u,rfl,ru⟩:=c0 r
 obtain ⟨tk,rfl⟩:=(show ∃ tk,u=Value.str z tk from ru)
 exact PySem.P.str_of_str ⟨.str z,H,I,⟨tk,rfl⟩,q⟩
def AE (te:TE):TE:=fun σ H Q=>te σ H fun v H1=>∃ z:Str,v = .str z∧z.length≤sizeLine∧Q (.str z) H1
theorem lJ {e:Expr}{te:TE}{pos:Pos}(he:PE X e te):PE X (.FormattedValue e (-1) none pos) (AE te):=by
 intro pins s σ H Q I h
 refine FormattedValue_plain (br (he pins s σ H _ I h) fun v s1 ⟨x,H1,I1,r1,z,ez,hb,q1⟩=>?_)
 subst ez
 obtain ⟨tk,rfl⟩:=(show ∃ tk,v=Value.str z tk from r1)
 exact formatField_str (fun t' k=>⟨.str z,H1,I1.tok _,⟨t',rfl⟩,q1⟩) hb
def BE (K:Frag)(te:TE)(ts:TO):TE:=fun σ H Q=>te σ H fun x H1=>ts σ H1 fun st H2=>st=some (-1)∧∃ a xs,x = .ref a∧a7 K H2 a xs∧∀ p,H2 p=none->Q (.ref p) (upd H2 p (.lst xs.reverse))
theorem uS {xs:List V}{us:List Value}(r:aI xs us):aI xs.reverse us.reverse:=by
 induction r with
 | nil=>exact .nil
 | cons h t ih=>rw [List.reverse_cons,List.reverse_cons]; exact ih.append (.cons h .nil)
theorem yz {e st:Expr}{te:TE}{ts:TO}{p2 pos:Pos}(he:PE X e te)(hs:PO X (some st) ts):PE X (.Subscript e (.Slice none none (some st) p2) pos) (BE X.K te ts):=by
 intro pins s σ H Q I h
 refine Subscript_ (br (he pins s σ H _ I h) fun v s1 ⟨x,H1,I1,r1,q1⟩=>?_)
 refine wpAny_Slice ?_
 rw [evalPart_none]
 refine wpAny_pure (wpAny_pure ?_)
 refine br (hs pins s1 σ H1 _ I1 q1) fun vs s3 ⟨o,H3,I3,po,q3⟩=>?_
 obtain ⟨eo,a,xs,ex,hq,q⟩:=q3
 subst eo ex
 cases (show v=Value.ref a from r1)
 have I4:Inv X pins σ H3 { s3 with heap:=s3.heap.push { cls:=.type "slice",data:=.fields #[.none,.none,vs] } }:=I3.kept (t':=s3.toks) fun b ob q=>Heap.get?_push_of_some _ q
 obtain ⟨its,r,ht,hz⟩:=I4.list hq
 have hlen:=r.length
 refine (show wpAny (model X.prog X.w) X.A (subscriptTail e (.Slice none none (some st) p2) (.ref a) (.ref s3.heap.objs.size)) (EP X pins σ Q) X.xe { s3 with heap:=s3.heap.push { cls:=.type "slice",data:=.fields #[.none,.none,vs] } } from
  tail_any (ops:=[.ref a,.ref s3.heap.objs.size]) ht.isList.typeIs slot_list_getitem.lookup ?_ (by with_unfolding_all rfl))
 refine wpAny_getItem_list_slice ht.isList (Heap.IsSliceOf.new ..) .none .none po (by decide) ?_ (by rw [List.size_toArray] <;> omega)
 rw [krv_pick]
 refine ⟨.ref _,_,I4.laid (t':=s3.toks) (o:=.lst xs.reverse) (fun b ob q=>Heap.get?_push_of_some _ q) (Nat.le_refl _) ?_,rfl,q _ (I4.hok.fresh (Nat.le_refl _))⟩
 exact ⟨by rw [List.length_reverse]; exact hz,_,0,by simpa using uS r,Heap.get?_push_size _ rfl⟩
end
section
variable {X:Cx}{CX:CXT}{k:Nat}{f C:Addr}{fd:FuncData}{ps:List Str}{sp:Sp}{E:XK}
theorem xC {pins:List (Addr × Obj)}{σ:St}{H:Hp}{s:Shared}{Q:VK}{us:List Value}{vs:List V}(F:FnOk X.prog X.w X.K X.mg X.base CX k f fd ps sp)(hr:Room (k + 2) X.A)(hb:ay X.K fd ps [])(hx:bQ CX X E)
 (I:Inv X pins σ H s)(r:aI vs us)(h:sp vs H Q E):wpAny (model X.prog X.w) X.A.in1.in1 (call (.ref f) us) (EP X pins σ Q) X.xe s:=by
 have hl:us.length=ps.length:=by rw [← r.length]; exact F.len _ _ _ _ h
 have hb2:=hb s us I.kIn (by rw [List.append_nil]; exact hl)
 rw [List.append_nil] at hb2
 refine wpAny_call (codeAny_mono (F.run X.A.in1.in1 X.stack s H ⟨us,[]⟩ us vs Q E hr.in1.in1 I.env0.in1.in1 hb2 r h) fun r s' hq=>?_)
 cases r with
 | error e=>exact hx pins σ H s e s' I hq
 | ok fl =>
   cases fl with
   | ret u=>exact I.after hq
   | next=>exact False.elim hq
   | brk=>exact False.elim hq
   | cont=>exact False.elim hq
theorem dR (hs:findIn X.K (.ref C) "__str__"=some (some (.ref f)))(hf:isFn X.K (.ref f)=true)(F:FnOk X.prog X.w X.K X.mg X.base CX k f fd ps sp)(hr:Room (k + 2) X.A)(hb:ay X.K fd ps [])(hx:bQ CX X E):
 cy X (.type "str") (fun xs H Q=>∃ p dx fs,xs=[.ref p]∧H p=some (.ins C dx fs)∧sp [.ref p] H (fun v H'=>∃ m,v = .str m∧Q (.str m) H') E):=by
 intro pins s σ H xs us Q I r h
 obtain ⟨p,dx,fs,rfl,ep,q⟩:=h
 obtain ⟨u,rfl,ru⟩:=c0 r
 cases (show u=Value.ref p from ru)
 obtain ⟨mA,O,_⟩:=cm I.hok ep
 obtain ⟨od,J,_⟩:=O.look
 have hu:X.A.units + 64 < cLine:=hr.units
 refine kso_call (by show X.A.units + 2 < cLine; omega) I.kIn J hs hf ?_
 refine wpAny_mono (xC F hr hb hx I (us:=[.ref p]) (vs:=[.ref p]) (.cons ru .nil) q) (fun r s1 ⟨z,H1,I1,rz,m,em,q1⟩=>?_) fun _ _ e=>e
 subst em
 obtain ⟨tk,rfl⟩:=(show ∃ tk,r=Value.str m tk from rz)
 exact ⟨.str m,H1,I1,⟨tk,rfl⟩,q1⟩
end
end L2
namespace Dg
open PySem PyProof.Rows
theorem eB (k:Nat):0 < (10:Nat) ^ k:=Nat.pow_pos (by decide)
abbrev dg (n:Nat):List Char:=Nat.toDigits 10 n
def ua (k n:Nat):List Char:=List.replicate (k - (dg n).length) '0'++dg n
theorem da {d:Nat}(h:d < 10):dg d=[d.digitChar]:=Nat.toDigits_of_lt_base h
theorem uw {k m d:Nat}(hk:1≤k)(hm:m < 10 ^ k)(hd:d < 10):ua (k + 1) (10 * m + d)=ua k m++[d.digitChar]:=by
 unfold ua
 by_cases h:m=0
 ·subst h
  rw [show 10 * 0 + d=d by omega,da hd,show dg 0=['0'] from rfl]
  show List.replicate (k + 1 - 1) '0'++[d.digitChar]=List.replicate (k - 1) '0'++['0']++[d.digitChar]
  congr 1
  rw [show k + 1 - 1=(k - 1) + 1 by omega,List.replicate_succ']
 ·have e:dg (10 * m + d)=dg m++[d.digitChar]:=by
   rw [← da hd]
   exact (Nat.toDigits_append_toDigits (b:=10) (by decide) (by omega) hd).symm
  rw [e,List.length_append,List.length_singleton,show k + 1 - ((dg m).length + 1)=k - (dg m).length by omega,List.append_assoc]
theorem cut:∀ (k n:Nat),1≤k->10 ^ k≤n->dg n=dg (n / 10 ^ k)++ua k (n % 10 ^ k)
 | 0,n,h,_=>absurd h (by decide)
 | 1,n,_,h=>by
   have h:10≤n:=by simpa using h
   have hd:n % 10 < 10:=Nat.mod_lt _ (by decide)
   rw [show (10:Nat) ^ 1=10 from rfl]
   unfold ua
   rw [da hd]
   exact Nat.toDigits_of_base_le (by decide) h
 | k + 2,n,_,h=>by
   have p:(10:Nat) ^ (k + 2)=10 * 10 ^ (k + 1):=by rw [Nat.pow_succ,Nat.mul_comm]
   have h10:10≤n:=by
    have:1≤(10:Nat) ^ (k + 1):=eB _
    omega
   have hk:10 ^ (k + 1)≤n / 10:=(Nat.le_div_iff_mul_le (by decide)).mpr (by rw [Nat.mul_comm,← p]; exact h)
   have ih:=cut (k + 1) (n / 10) (by omega) hk
   have hd:n % 10 < 10:=Nat.mod_lt _ (by decide)
   have e1:dg n=dg (n / 10)++[(n % 10).digitChar]:=Nat.toDigits_of_base_le (by decide) h10
   have e2:n % 10 ^ (k + 2)=10 * ((n / 10) % 10 ^ (k + 1)) + n % 10:=by
    rw [p,Nat.mod_mul]
    omega
   have e3:n / 10 ^ (k + 2)=n / 10 / 10 ^ (k + 1):=by rw [p,Nat.div_div_eq_div_mul]
   rw [e1,ih,e2,e3,uw (by omega) (Nat.mod_lt _ (eB _)) hd,List.append_assoc]
def tx (n:Nat):Str:=⟨((dg n).map Char.toNat).toArray⟩
theorem fV (n:Nat):Str.ofString (toString ((n:Nat):Int))=tx n:=text_ofNat n
theorem pH (n:Nat):(tx n).length=(dg n).length:=by unfold tx Str.length; simp
theorem qK (n:Nat):dg n≠[]:=fun h=>by
 have:=toDigits_len_ge 10 n
 rw [show Nat.toDigits 10 n=[] from h] at this
 cases this
theorem nV (d:Nat)(h:d < 10):d.digitChar.toNat≠43∧d.digitChar.toNat≠45:=by
 have:∀ d < 10,(Nat.digitChar d).toNat≠43∧(Nat.digitChar d).toNat≠45:=by decide
 exact this d h
theorem zf (n:Nat):∀ c∈dg n,c.toNat≠43∧c.toNat≠45:=by
 induction n using Nat.strongRecOn with
 | ind n ih =>
   intro c hc
   by_cases h:n < 10
   ·rw [da h] at hc
    have:c=n.digitChar:=by simpa using hc
    rw [this]
    exact nV n h
   ·have e:dg n=dg (n / 10)++[(n % 10).digitChar]:=Nat.toDigits_of_base_le (by decide) (by omega)
    rw [e] at hc
    rcases List.mem_append.mp hc with hc | hc
    ·exact ih (n / 10) (by omega) c hc
    ·have:c=(n % 10).digitChar:=by simpa using hc
     rw [this]
     exact nV _ (Nat.mod_lt _ (by decide))
theorem mh {k m:Nat}(hk:1≤k)(hm:m < 10 ^ k):Txt.zfill (tx m) (k:Int)=⟨((ua k m).map Char.toNat).toArray⟩:=by
 have hl:(dg m).length≤k:=digits10_le hk hm
 unfold Txt.zfill
 rw [pH]
 unfold ua
 by_cases h:(k:Int)≤((dg m).length:Int)
 ·rw [if_pos h,show k - (dg m).length=0 by omega]
  rfl
 ·rw [if_neg h,Int.toNat_natCast]
  obtain ⟨c,cs,hc⟩:∃ c cs,dg m=c :: cs:=by
   cases e:dg m with
   | nil=>exact absurd e (qK m)
   | cons c cs=>exact ⟨c,cs,rfl⟩
  have h0:(tx m).cps[0]?=some c.toNat:=by unfold tx; rw [hc]; simp
  obtain ⟨n1,n2⟩:=zf m c (by rw [hc]; exact List.mem_cons_self)
  have e:zfilled (tx m) (k - (dg m).length)=Builtin.Str.padded (tx m) (k - (dg m).length) 0 48:=by
   unfold zfilled
   rw [h0]
   split
   ·rename_i z; exact absurd (Option.some.inj z) n1
   ·rename_i z; exact absurd (Option.some.inj z) n2
   ·rfl
  rw [e]
  unfold Builtin.Str.padded tx
  simp
theorem yy (a b:List Nat):(⟨a.toArray⟩:Str)++⟨b.toArray⟩=⟨(a++b).toArray⟩:=by
 show Str.append _ _=_
 unfold Str.append
 simp
theorem y6 {k n:Nat}(hk:1≤k)(h:10 ^ k≤n):tx n=tx (n / 10 ^ k)++Txt.zfill (tx (n % 10 ^ k)) (k:Int):=by
 rw [mh hk (Nat.mod_lt _ (eB _))]
 unfold tx
 rw [yy,cut k n hk h,List.map_append]
theorem gY (a b c:Str):a++b++c=a++(b++c):=by
 show Str.append (Str.append a b) c=Str.append a (Str.append b c)
 unfold Str.append
 simp [Array.append_assoc]
theorem jY (a:Str):a++Str.empty=a:=by
 show Str.append a _=a
 unfold Str.append Str.empty
 simp
theorem iD (a:Str):Str.empty++a=a:=by
 show Str.append _ a=a
 unfold Str.append Str.empty
 simp
theorem uM:Str.ofString ""=Str.empty:=by decide +kernel
def jy:List Str->Str
 | []=>Str.empty
 | t :: ts=>t++jy ts
theorem iK:∀ (ts us:List Str),jy (ts++us)=jy ts++jy us
 | [],us=>(iD _).symm
 | t :: ts,us=>by
   show t++jy (ts++us)=t++jy ts++jy us
   rw [iK ts us,gY]
theorem il:∀ ts:List Str,Str.join (Str.ofString "") ts=jy ts
 | []=>rfl
 | [t]=>(jY t).symm
 | t :: u :: ts=>by
   show t++Str.ofString ""++Str.join (Str.ofString "") (u :: ts)=t++jy (u :: ts)
   rw [il (u :: ts),uM,jY]
theorem kB:∀ ts:List Str,(jy ts).length=(ts.map (·.length)).sum
 | []=>rfl
 | t :: ts=>by
   show (t++jy ts).length=_
   rw [Str.length_append,kB ts]
   simp
theorem ki {n k:Nat}(hk:1≤k)(h:n < 2 ^ k):(tx n).length≤k:=by
 rw [pH]
 exact PyProof.Rows.digits10_le hk (Nat.lt_of_lt_of_le h (Nat.pow_le_pow_left (by decide) k))
theorem ie {n:Nat}{k:Nat}(hk:1≤k)(h:n < 2 ^ k):n.log2 < k:=by
 by_cases z:n=0
 ·rw [z]; exact hk
 ·exact (Nat.log2_lt z).mpr h
end Dg
namespace L2
open PySem PySem.Spec PyProof.Rows PySem.W
section
variable {X:Cx}
theorem kK:cy X (.builtin "divmod") (fun xs H Q=>∃ i j:Int,xs=[.int i,.int j]∧0 < j∧Nm.B 9000 j∧∀ p,H p=none->Q (.ref p) (upd H p (.tup [.int (i / j),.int (i % j)]))):=by
 intro pins s σ H xs us Q I r h
 obtain ⟨i,j,rfl,h1,h2,q⟩:=h
 obtain ⟨u,w',rfl,⟨t,rfl⟩,⟨t',rfl⟩⟩:=p9 r
 refine divmod_int (by omega) ?_ (.inl (PyProof.noPylong_of_log2 (uN h2)))
 rw [Int.fdiv_eq_ediv_of_nonneg i (by omega),Int.fmod_eq_emod_of_nonneg i (by omega)]
 refine ⟨.ref s.heap.objs.size,upd H s.heap.objs.size (.tup [.int (i / j),.int (i % j)]),?_,rfl,q _ (I.hok.fresh (Nat.le_refl _))⟩
 refine I.laid (o:=.tup [.int (i / j),.int (i % j)]) (fun b o e=>Heap.get?_push_of_some _ e) (Nat.le_refl _) ⟨by show 2≤sizeLine; decide,[.int (i / j) s.toks,.int (i % j) (s.toks + 1)],.cons ⟨_,rfl⟩ (.cons ⟨_,rfl⟩ .nil),?_⟩
 exact ⟨_,Heap.get?_push_size s.heap rfl,rfl,0,rfl⟩
end
theorem nQ {M:Model}{A:Around}{x:Addr}{Q:Fin->Shared->Prop}{E:Value->Shared->Prop}{s:Shared}(h:wpAny M A (truthy (.ref x)) (fun b s'=>Q (.done (.ret (.bool b))) s') E s):wpAny M A (Builtin.«bool.__new__» ⟨[.type "bool",.ref x],[]⟩) Q E s:=by
 have f1:=PySem.F.conv_sub_bool
 obtain ⟨hp,g,d,tk,os⟩:=s
 unfold Builtin.«bool.__new__»
 repeat (any_goals (first | (with_reducible refine wpAny_bind (m:=truthy (.ref x)) (wpAny_mono h (fun b s' hb=>wpAny_pure hb) (fun _ _ e=>e))) | assumption | wp_step))
section
variable {X:Cx}{CX:CXT}{k:Nat}{f C:Addr}{fd:FuncData}{ps:List Str}{sp:Sp}{E:XK}
theorem t6 {A':Around}{pins:List (Addr × Obj)}{σ:St}{H:Hp}{s:Shared}{Q:VK}{us:List Value}{vs:List V}(F:FnOk X.prog X.w X.K X.mg X.base CX k f fd ps sp)(hr:Room k A')(e0:Env0 X.prog X.w X.K X.mg X.base A' X.stack s H)(hb:ay X.K fd ps [])(hx:bQ CX X E)
 (I:Inv X pins σ H s)(r:aI vs us)(h:sp vs H Q E):wpAny (model X.prog X.w) A' (call (.ref f) us) (EP X pins σ Q) X.xe s:=by
 have hl:us.length=ps.length:=by rw [← r.length]; exact F.len _ _ _ _ h
 have hb2:=hb s us I.kIn (by rw [List.append_nil]; exact hl)
 rw [List.append_nil] at hb2
 refine wpAny_call (codeAny_mono (F.run A' X.stack s H ⟨us,[]⟩ us vs Q E hr e0 hb2 r h) fun r s' hq=>?_)
 cases r with
 | error e=>exact hx pins σ H s e s' I hq
 | ok fl =>
   cases fl with
   | ret u=>exact I.after hq
   | next=>exact False.elim hq
   | brk=>exact False.elim hq
   | cont=>exact False.elim hq
theorem kU (h0:findIn X.K (.ref C) "__bool__"=some none)(hs:findIn X.K (.ref C) "__len__"=some (some (.ref f)))(hf:isFn X.K (.ref f)=true)(F:FnOk X.prog X.w X.K X.mg X.base CX k f fd ps sp)(hr:Room (k + 3) X.A)(hb:ay X.K fd ps [])(hx:bQ CX X E):
 cy X (.type "bool") (fun xs H Q=>∃ p dx fs,xs=[.ref p]∧H p=some (.ins C dx fs)∧sp [.ref p] H (fun v H'=>∃ n:Nat,v = .int n∧n < 2 ^ 62∧Q (.bl (n != 0)) H') E):=by
 intro pins s σ H xs us Q I r h
 obtain ⟨p,dx,fs,rfl,ep,q⟩:=h
 obtain ⟨u,rfl,ru⟩:=c0 r
 cases (show u=Value.ref p from ru)
 obtain ⟨mA,O,_⟩:=cm I.hok ep
 obtain ⟨od,J,_⟩:=O.look
 refine callType_codes (T:="bool") (Bi:=Builtin.«object.__init__») (Q₁:=fun r s₁=>∃ b,r = .bool b∧EP X pins σ Q r s₁) PySem.F.called_bool (PySem.F.typeCall_bool_1 _) PySem.F.entry_object_init ?g1 ?g2
 case g2 =>
  rintro obj s₁ ⟨b,rfl,hq⟩
  exact ⟨PySem.typeIs_bool _ _,PySem.F.args_object_init_2 _ _,object_init_meets PySem.F.called_bool.init.lookup PySem.F.called_bool.made (by decide) X.prog X.w X.A.in1 _ s₁ ⟨PySem.typeIs_bool _ _,rfl,hq⟩⟩
 refine codeAny_of_tree ?_
 refine (show wpAny _ X.A.in1.in1 (do checkBuiltinCall "bool.__new__" ⟨[.type "bool",.ref p],[]⟩; again (.builtin "bool.__new__" ⟨[.type "bool",.ref p],[]⟩)) _ _ s from ?_)
 refine wpAny_bind (wpAny_of_eq (PySem.F.newCall_bool_1 _) (wpAny_pure ⟨plainId_quiet (by decide +kernel) _,codeAny_builtin PySem.F.entry_bool_new ?_⟩))
 rw [Around.under_plainId (by decide +kernel) _]
 refine nQ ?_
 refine wpAny_mono (Q:=fun b s'=>EP X pins σ Q (.bool b) s') ?_ (fun b s' hb=>⟨b,rfl,hb⟩) (fun e s' he=>he)
 unfold truthy
 refine wpAny_bind (m:=callSpecial? (.ref p) (Str.ofString "__bool__")) (wpAny_bind (wpAny_bind (J.type.here ((looks_findIn I.kIn h0).here (wpAny_pure ?_)))))
 refine wpAny_bind (wpAny_bind (J.type.here ((looks_findIn I.kIn hs).here ?_)))
 refine wpAny_bind (wpAny_runValue (codeAny_builtin entry_len ?_))
 rw [Around.under_plainId plain_len _]
 unfold Builtin.«len»
 refine wpAny_bind (m:=oneArg "len" _) (wpAny_pure ?_)
 unfold callSpecial?
 refine wpAny_bind (wpAny_bind (wpAny_bind (J.type.here ((looks_findIn I.kIn hs).here ?_))))
 refine wpAny_holding (wpAny_bind ((bind_fn I.kIn _ (beq_iff_eq.mp hf)).here ?_))
 refine wpAny_bind (wpAny_mono (t6 F hr.in1.in1.in1 I.env0.in1.in1.in1 hb hx I (us:=[.ref p]) (vs:=[.ref p]) (.cons ru .nil) q) (fun r s1 ⟨z,H1,I1,rz,n,en,hn,q1⟩=>?_) fun _ _ e=>e)
 subst en
 obtain ⟨tk,rfl⟩:=(show ∃ tk,r=Value.int n tk from rz)
 refine wpAny_pure ?_
 refine wpAny_bind (wpAny_holding ?_)
 refine wpAny_pure (wpAny_bind (wpAny_letGo ?_))
 refine (show wpAny _ _ (if (n:Int) < 0 then _ else _) _ _ _ from ?_)
 rw [if_neg (by omega)]
 refine (show wpAny _ _ (if (n:Int) ≥ 2 ^ 63 then _ else _) _ _ _ from ?_)
 rw [if_neg (by omega)]
 refine wpAny_bind (wpAny_mkInt (wpAny_pure ?_))
 have e:((n:Int) != 0)=(n != 0):=by
  cases n with
  | zero=>rfl
  | succ n=>rfl
 exact wpAny_pure ⟨.bl (n != 0),H1,I1.tok _,(show Value.bool ((n:Int) != 0)=Value.bool (n != 0) by rw [e]),q1⟩
end
open AutoSeq1 (wpAny_loadPart')
section
variable {X:Cx}{CX:CXT}{k:Nat}{f C:Addr}{fd:FuncData}{ps:List Str}{sp:Sp}{E:XK}
def zj (K:Frag)(C:Addr)(sp:Sp)(E:XK):R2:=fun x y H Q=>∃ p dx fs l t a,x = .ref a∧y = .ref l∧a7 K H l [.ref p]∧H p=some (.ins C dx fs)∧a≠p∧TyX K H x t∧notFirst K C t=true∧sp [.ref p,x] H (fun v H'=>∃ b,v = .bl b∧a7 K H' l [.ref p]∧Q (.bl b) H') E
theorem v8 (hs:findIn X.K (.ref C) "__eq__"=some (some (.ref f)))(hf:isFn X.K (.ref f)=true)(F:FnOk X.prog X.w X.K X.mg X.base CX k f fd ps sp)(hr:Room (k + 2) X.A)(hb:ay X.K fd ps [])(hx:bQ CX X E):
 dz X (compareOp .In) (zj X.K C sp E):=by
 intro pins s σ H x y v u Q I rx ry h
 obtain ⟨p,dx,fs,l,t,a,rfl,rfl,hq,ep,nx,ty,hn,q⟩:=h
 cases (show v=Value.ref a from rx)
 cases (show u=Value.ref l from ry)
 obtain ⟨mA,O,_⟩:=cm I.hok ep
 obtain ⟨od,J,_⟩:=O.look
 obtain ⟨m,Fm⟩:=I.fr
 obtain ⟨its,r,pl,hz⟩:=I.list hq
 have e1:its=[.ref p]:=by
  cases r with
  | cons r1 r2 =>
    cases r2
    rw [show _=Value.ref p from r1]
 subst e1
 have nv:(Value.ref p == Value.ref a)=false:=by simpa using Ne.symm nx
 refine (show wpAny (model X.prog X.w) X.A (do return Value.bool (← contains (.ref l) (.ref a))) _ _ s from ?_)
 refine wpAny_bind (wpAny_contains_slot pl.isList.typeIs PySem.F.slot_list_contains (wpAny_call (codeAny_call_builtin PySem.F.slot_list_contains.plain PySem.F.entry_list_contains (PySem.F.slot_list_contains.check _ _ _ _ _ _ _ _ pl.isList.typeIs (PySem.F.args_list_contains_2 _ _) ?_))))
 obtain ⟨⟨cls,dd,data,sl⟩,ho,hc,n,hd⟩:=id pl.isList
 simp only at hc hd
 subst hc hd
 unfold Builtin.«list.__contains__»
 refine wpAny_bind (m:=slotArgs _ _ _) (wpAny_pure ?_)
 refine wpAny_pure ⟨plainId_quiet PySem.MeetsSeq.plain_contains_loop _,codeAny_builtin PySem.MeetsSeq.entry_contains_loop ?_⟩
 rw [Around.under_plainId PySem.MeetsSeq.plain_contains_loop _]
 unfold Builtin.«list.__contains__.loop»
 refine wpAny_bind ?_
 unfold Builtin.List.listItems
 refine wpAny_bind (wpAny_seqItems ho rfl (wpAny_pure ?_))
 refine wpAny_bind (m:=eqBool _ _) ?_
 unfold eqBool
 refine wpAny_holding ?_
 refine (show wpAny (model X.prog X.w) X.A.in1 (if (Value.ref p == Value.ref a)=true then _ else _) _ _ s from ?_)
 rw [if_neg (by rw [nv]; decide)]
 have hr1:Room (k + 1) X.A.in1:=hr.in1
 refine wpAny_bind (m:=richCompare _ _ _) (cmp_K (op:=.Eq) (by have:=hr1.units0; exact this) Fm I.mod.kin J (oZ I rx ty) hn hs hf ?_)
 refine wpAny_mono (t6 F (hr1.mono (Nat.le_succ _)) I.env0.in1 hb hx I (us:=[.ref p,.ref a]) (vs:=[.ref p,.ref a]) (.cons rfl (.cons rx .nil)) q) (fun r s1 ⟨z,H1,I1,rz,b,eb,hq1,q1⟩=>?_) fun _ _ e=>e
 subst eb
 cases (show r=Value.bool b from rz)
 refine (show wpAny (model X.prog X.w) X.A.in1 (truthOfDropped (.bool b)) _ _ s1 from ?_)
 refine wpAny_pure ?_
 cases b with
 | true=>exact wpAny_pure (wpAny_pure (wpAny_pure ⟨.bl true,H1,I1,rfl,q1⟩))
 | false =>
   refine wpAny_pure ⟨plainId_quiet PySem.MeetsSeq.plain_contains_loop _,codeAny_builtin PySem.MeetsSeq.entry_contains_loop ?_⟩
   rw [Around.under_plainId PySem.MeetsSeq.plain_contains_loop _]
   obtain ⟨it2,r2,pl2,_⟩:=I1.list hq1
   have e2:it2=[.ref p]:=by
    cases r2 with
    | cons r1 r2 =>
      cases r2
      rw [show _=Value.ref p from r1]
   subst e2
   obtain ⟨⟨cls,dd2,data,sl2⟩,ho2,hc,n2,hd⟩:=id pl2.isList
   simp only at hc hd
   subst hc hd
   unfold Builtin.«list.__contains__.loop»
   refine wpAny_bind ?_
   unfold Builtin.List.listItems
   refine wpAny_bind (wpAny_seqItems ho2 rfl (wpAny_pure ?_))
   exact wpAny_pure (wpAny_pure (wpAny_pure ⟨.bl false,H1,I1,rfl,q1⟩))
end
end L2
namespace K05
open PySem L2 PySem.W Nm Srt Dg
abbrev BO:Stmt:=(aY 15)
structure Wt (n:Nat):Prop where
 h:n < 2 ^ 1900
theorem Wt.div {n k:Nat}(h:Wt n):Wt (n / k):=⟨Nat.lt_of_le_of_lt (Nat.div_le_self n k) h.h⟩
theorem Wt.mod {n k:Nat}(h:Wt n):Wt (n % k):=⟨Nat.lt_of_le_of_lt (Nat.mod_le n k) h.h⟩
theorem Wt.log {n:Nat}(h:Wt n):n.log2 < 1920:=Nat.lt_of_lt_of_le (ie (by decide) h.h) (by decide)
theorem Wt.len {n:Nat}(h:Wt n):(tx n).length≤1900:=ki (by decide) h.h
def spSW:Sp:=fun vs H Q _=>∃ n:Nat,vs=[.int n]∧Wt n∧∀ H',aA H H'->Q (.str (tx n)) H'
theorem xa:FnScope ["number","steps","rest"] ["number"] (ao BO):=dB (by decide +kernel)
structure Stp (S:Int):Prop where
 e:S=((10 ^ 64:Nat):Int)
theorem Stp.pos {S:Int}(h:Stp S):0 < S:=by rw [h.e]; exact Int.natCast_pos.mpr (eB 64)
theorem Stp.b {S:Int}(h:Stp S):B 9000 S:=by
 rw [h.e]
 show ((10 ^ 64:Nat):Int).natAbs < 2 ^ 9000
 rw [Int.natAbs_natCast]
 refine Nat.lt_of_lt_of_le (m:=2 ^ 256) ?_ (Nat.pow_le_pow_right (by decide) (by decide))
 refine Nat.lt_of_le_of_lt (Nat.pow_le_pow_left (show 10≤2 ^ 4 - 1 by decide) 64) ?_
 decide +kernel
theorem Stp.div {S:Int}(h:Stp S)(n:Nat):(n:Int) / S=((n / 10 ^ 64:Nat):Int):=by rw [h.e]; exact (Int.natCast_ediv n (10 ^ 64)).symm
theorem Stp.mod {S:Int}(h:Stp S)(n:Nat):(n:Int) % S=((n % 10 ^ 64:Nat):Int):=by rw [h.e]; exact (Int.natCast_emod n (10 ^ 64)).symm
theorem Stp.le {S:Int}(h:Stp S)(n:Nat):S≤(n:Int) ↔ 10 ^ 64≤n:=by rw [h.e]; exact Int.ofNat_le
theorem r0 {m:Nat}(h:m < 10 ^ 64):(Txt.zfill (tx m) 64).length=64:=by
 have e:=mh (k:=64) (m:=m) (by decide) h
 have e:Txt.zfill (tx m) 64=⟨((ua 64 m).map Char.toNat).toArray⟩:=e
 rw [e]
 have hl:(dg m).length≤64:=PyProof.Rows.digits10_le (by decide) h
 unfold Str.length ua
 simp
 omega
variable {P:Program}{w:World}{K:PySem.W.Frag}{mg:Str->Option Value}{base:Heap}
theorem jE {f:Addr}{fd:FuncData}{S:Int}{tS tF:Tok}(F:Fun K "shown_whole" "shown_whole" BO f fd)(m_divmod:mg "divmod"=none)(m_str:mg "str"=none)(hS:Stp S)(mS:mg "STEP"=some (.int S tS))(mF:mg "STEP_FIGURES"=some (.int 64 tF)):FnOk P w K mg base (bh P w) 1 f fd ["number"] spSW:=by
 refine F.okN xa (fun vs H Q E h=>?_) (fun cdv A outer s H vs Q E hr h=>?_)
 ·obtain ⟨n,rfl,_⟩:=h
  rfl
 ·obtain ⟨n0,rfl,hn0,q⟩:=h
  refine ⟨_,(ai (@aJ _ _ 1 _ _ _ _ xa.nd rfl (Or.inl rfl) (@bf _ _ _ _ af) rfl (Or.inl rfl))
   (ai (ip PassesOwn.never (@aE _ _ _ _ _ _ _ _ ud (pv 0) (cj (by rfl) mS (show aC (.int S) (.int S tS) from ⟨_,rfl⟩)) (ax _)) (ai (eZ (aH kK (by rfl) m_divmod (by rfl) (@aj _ _ _ _ _ (pv 0) (@aj _ _ _ _ _ (cj (by rfl) mS (show aC (.int S) (.int S tS) from ⟨_,rfl⟩)) af rfl) rfl)) (cH rfl (aN (aG (i:=0) xa.nd rfl (Or.inl rfl)) (aN (aG (i:=2) xa.nd rfl (Or.inl rfl)) b7))))
   (aq (fP (eJ PySem.F.plainAttrs_list PySem.F.slot_list_append PySem.F.type_list_append de (pv 1) (@aj _ _ _ _ _ (eJ PySem.F.plainAttrs_str PySem.F.slot_str_zfill PySem.F.type_str_zfill vC (aQ bU (by rfl) m_str (by rfl) (@aj _ _ _ _ _ (pv 2) af rfl)) (@aj _ _ _ _ _ (cj (by rfl) mF (show aC (.int 64) (.int 64 tF) from ⟨_,rfl⟩)) af rfl)) af rfl))))))
   (ai (fP (eJ PySem.F.plainAttrs_list PySem.F.slot_list_append PySem.F.type_list_append de (pv 1) (@aj _ _ _ _ _ (aQ bU (by rfl) m_str (by rfl) (@aj _ _ _ _ _ (pv 0) af rfl)) af rfl)))
   (aq (az (eJ PySem.F.plainAttrs_str PySem.F.slot_str_join PySem.F.type_str_join hV aU (@aj _ _ _ _ _ (yz (pv 1) (qF (vX n8 ah))) af rfl))))))),?_⟩
  refine ⟨Nat.zero_le _,fun L hL=>?_⟩
  have s1:=ak (o:=.lst []) hL
  have e1:upd H L (.lst []) L=some (.lst []):=ag
  generalize upd H L (.lst [])=H1 at s1 e1 ⊢
  refine ⟨fun m σ H'=>∃ (n:Nat)(ts:List Str)(o:Option V),σ=[some (.int n),some (.ref L),o]∧aA H H'∧H' L=some (.lst (ts.map V.str))∧n=m∧Wt n∧tx n0=tx n++jy ts.reverse∧ts.length≤(ts.map (·.length)).sum,⟨_,n0,[],none,rfl,s1,e1,rfl,hn0,(jY _).symm,Nat.le_refl _⟩,?_⟩
  rintro m σ H' ⟨n,ts,o,rfl,sH,eL,rfl,hn,et,hl⟩
  have le0:(tx n0).length≤1900:=hn0.len
  have lsum:(tx n).length + (ts.map (·.length)).sum≤1900:=by
   have:=congrArg Str.length et
   rw [Str.length_append,kB,List.map_reverse,List.sum_reverse] at this
   omega
  refine ⟨_,rfl,_,_,rfl,rfl,_,rfl,?_⟩
  refine bF (fun h=>?_) (fun h=>?_)
  ·have hge:10 ^ 64≤n:=(hS.le n).mp (by simpa using h)
   refine ⟨fun σ' H''=>∃ (k:Nat)(ts:List Str)(o:Option V),σ'=[some (.int k),some (.ref L),o]∧aA H H''∧H'' L=some (.lst (ts.map V.str))∧k < n∧Wt k∧tx n0=tx k++jy ts.reverse∧ts.length≤(ts.map (·.length)).sum,?_,?_⟩
   ·rintro σ' H'' ⟨k,ts,o,e1,e2,e3,e4,e5⟩
    exact ⟨k,e4,k,ts,o,e1,e2,e3,rfl,e5⟩
   refine ⟨_,rfl,_,_,rfl,hS.pos,hS.b,fun p hp=>?_⟩
   have r2:=ak (o:=.tup [.int ((n:Int) / S),.int ((n:Int) % S)]) hp
   have e2:upd H' p (.tup [.int ((n:Int) / S),.int ((n:Int) % S)]) p=some (.tup [.int ((n / 10 ^ 64:Nat):Int),.int ((n % 10 ^ 64:Nat):Int)]):=by rw [ag,hS.div,hS.mod]
   generalize upd H' p _=H2 at r2 e2 ⊢
   have eL2:=r2 _ _ eL
   refine ⟨p,_,rfl,bg.of e2,rfl,_,_,rfl,_,_,rfl,rfl,?_⟩
   have hd:=hn.div (k:=10 ^ 64)
   have hm:=hn.mod (k:=10 ^ 64)
   have cut:=y6 (k:=64) (by decide) hge
   have hlt:n / 10 ^ 64 < n:=Nat.div_lt_self (Nat.lt_of_lt_of_le (eB 64) hge) (Nat.one_lt_pow (by decide) (by decide))
   generalize n / 10 ^ 64=a at hd cut hlt ⊢
   have hb:n % 10 ^ 64 < 10 ^ 64:=Nat.mod_lt _ (eB 64)
   generalize n % 10 ^ 64=b at hm cut hb ⊢
   refine ⟨_,rfl,.inl ⟨rfl,_,a7.of eL2⟩,_,rfl,_,rfl,(by rw [Int.natAbs_natCast]; exact hm.log),?_⟩
   rw [show Str.ofString (toString ((b:Nat):Int))=tx b from fV b]
   refine ⟨rfl,_,64,rfl,rfl,by decide +kernel,?_⟩
   refine ⟨L,ts.map V.str,_,rfl,rfl,eL2,?_,?_⟩
   ·rw [List.length_map]
    exact Nat.lt_of_le_of_lt (show ts.length≤1900 by omega) (by decide)
   refine ⟨a,ts++[Txt.zfill (tx b) 64],_,rfl,fun c u e=>?_,by rw [ag,List.map_append]; rfl,hlt,hd,?_,?_⟩
   ·have ne:c≠L:=au e hL
    rw [ar ne]
    exact r2 _ _ (sH _ _ e)
   ·rw [et,cut,List.reverse_append,gY]
    rfl
   ·have e:1≤(Txt.zfill (tx b) 64).length:=by
     have:=r0 (m:=b) hb
     omega
    rw [List.length_append,List.map_append,List.sum_append]
    simp
    omega
  ·refine ⟨_,rfl,.inl ⟨rfl,_,a7.of eL⟩,_,rfl,_,rfl,(by rw [Int.natAbs_natCast]; exact hn.log),?_⟩
   rw [show Str.ofString (toString ((n:Nat):Int))=tx n from fV n]
   refine ⟨L,ts.map V.str,_,rfl,rfl,eL,?_,?_⟩
   ·rw [List.length_map]
    exact Nat.lt_of_le_of_lt (show ts.length≤1900 by omega) (by decide)
   have e3:upd H' L (.lst (ts.map V.str++[.str (tx n)])) L=some (.lst ((ts++[tx n]).map V.str)):=by rw [ag,List.map_append]; rfl
   have s3:aA H (upd H' L (.lst (ts.map V.str++[.str (tx n)]))):=fun c u e=>by
    rw [ar (au e hL)]
    exact sH _ _ e
   generalize upd H' L _=H3 at e3 s3 ⊢
   refine ⟨rfl,_,rfl,_,rfl,_,rfl,rfl,L,_,rfl,a7.of e3,fun p hp=>?_⟩
   have r4:=ak (o:=.lst ((ts++[tx n]).map V.str).reverse) hp
   have e4:upd H3 p (.lst ((ts++[tx n]).map V.str).reverse) p=some (.lst ((ts++[tx n]).reverse.map V.str)):=by rw [ag,List.map_reverse]
   generalize upd H3 p _=H4 at r4 e4 ⊢
   refine ⟨_,p,_,rfl,rfl,a7.of e4,?_,?_⟩
   ·rw [show (Str.ofString "").length=0 from by decide +kernel,List.map_reverse,List.sum_reverse,List.map_append,List.sum_append]
    simp
    omega
   ·rw [il,List.reverse_append]
    have e5:jy ([tx n].reverse++ts.reverse)=tx n0:=by rw [et]; rfl
    rw [e5]
    exact q _ (s3.trans r4)
end K05
namespace L2
open PySem PySem.Spec PyProof.Rows PySem.W
section
variable {X:Cx}
def dC:Int->Nat->List Int
 | _,0=>[]
 | i,n + 1=>i :: dC (i + 1) n
theorem mw:∀ (n:Nat)(i:Int),(dC i n).length=n
 | 0,_=>rfl
 | n + 1,i=>by show (dC (i + 1) n).length + 1=n + 1; rw [mw n]
end
theorem xq {σ:St}{H:Hp}{A B:Hp->Prop}(h:A H):tYes σ H fun b H4=>if b=true then A H4 else B H4:=h
theorem iN {J:It}{n:Nat}{at_:Nat->V->Prop}{tt:TT}{te:TE}{rest:St}{H:Hp}{F:List V->Hp->Prop}(Pv:Nat->List V->Hp->Prop)(h0:Pv 0 [] H)
 (hz:∀ i ys H',i≤n->Pv i ys H'->ys.length < sizeLine∧(i < n->J.go i H')∧(i=n->J.stop i H')∧∀ x H2,J.yld i H' x H2->H2=H'∧at_ i x)
 (hs:∀ i x ys H' (N:List V->Hp->Prop),i < n->at_ i x->Pv i ys H'->(∀ zs H5,Pv (i + 1) zs H5->N zs H5) →
  tt (some x :: rest) H' fun b H4=>if b=true then te (some x :: rest) H4 fun y H5=>N (ys++[y]) H5 else N ys H4)
 (hd:∀ ys H',Pv n ys H'->F ys H'):
 ∃ W:Nat->Nat->List V->St->Hp->Prop,(∃ m,W 0 m [] (none :: rest) H)∧i5 J (cc 0) tt te W F:=by
 refine ⟨fun i m ys σ H'=>m=n - i∧i≤n∧Pv i ys H'∧∃ o,σ=o :: rest,⟨n,by simp,Nat.zero_le _,h0,none,rfl⟩,?_⟩
 rintro i m ys σ H' ⟨rfl,hi,p,o,rfl⟩
 obtain ⟨z1,z2,z3,z4⟩:=hz i ys H' hi p
 refine ⟨z1,?_⟩
 by_cases hlt:i < n
 ·refine .inr ⟨z2 hlt,fun x H2 hy=>?_⟩
  obtain ⟨rfl,hx⟩:=z4 x H2 hy
  exact hs i x ys H2 (fun zs H5=>∃ m',m' < n - i∧m'=n - (i + 1)∧i + 1≤n∧Pv (i + 1) zs H5∧∃ o',(some x :: rest:St)=o' :: rest) hlt hx p fun zs H5 h=>⟨n - (i + 1),by omega,rfl,hlt,h,_,rfl⟩
 ·have:i=n:=by omega
  subst this
  exact .inl ⟨z3 rfl,hd ys H' p⟩
theorem lU {K:PySem.W.Frag}{a:Addr}{xs:List V}{tt:TT}{te:TE}{rest:St}{H:Hp}{F:List V->Hp->Prop}(Pv:Nat->List V->Hp->Prop)(h0:Pv 0 [] H)
 (hz:∀ i ys H',i≤xs.length->Pv i ys H'->ys.length < sizeLine∧bg K H' a xs)
 (hs:∀ i x ys H' (N:List V->Hp->Prop),i < xs.length->xs[i]?=some x->Pv i ys H'->(∀ zs H5,Pv (i + 1) zs H5->N zs H5) →
  tt (some x :: rest) H' fun b H4=>if b=true then te (some x :: rest) H4 fun y H5=>N (ys++[y]) H5 else N ys H4)
 (hd:∀ ys H',Pv xs.length ys H'->F ys H'):
 ∃ W:Nat->Nat->List V->St->Hp->Prop,(∃ m,W 0 m [] (none :: rest) H)∧i5 (Bh K a) (cc 0) tt te W F:=by
 refine iN (n:=xs.length) (at_:=fun i x=>xs[i]?=some x) Pv h0 (fun i ys H' hi p=>?_) hs hd
 obtain ⟨z1,z2⟩:=hz i ys H' hi p
 exact ⟨z1,fun h=>⟨xs,xs[i],z2,by simp [h]⟩,fun h=>⟨xs,z2,by omega⟩,fun x H2 hy=>⟨hy.1,hy.2 xs z2⟩⟩
theorem ma {K:PySem.W.Frag}{a:Addr}{xs:List V}{tt:TT}{te:TE}{rest:St}{H:Hp}{F:List V->Hp->Prop}(Pv:Nat->List V->Hp->Prop)(h0:Pv 0 [] H)
 (hz:∀ i ys H',i≤xs.length->Pv i ys H'->ys.length < sizeLine∧a7 K H' a xs)
 (hs:∀ i x ys H' (N:List V->Hp->Prop),i < xs.length->xs[i]?=some x->Pv i ys H'->(∀ zs H5,Pv (i + 1) zs H5->N zs H5) →
  tt (some x :: rest) H' fun b H4=>if b=true then te (some x :: rest) H4 fun y H5=>N (ys++[y]) H5 else N ys H4)
 (hd:∀ ys H',Pv xs.length ys H'->F ys H'):
 ∃ W:Nat->Nat->List V->St->Hp->Prop,(∃ m,W 0 m [] (none :: rest) H)∧i5 (zv K a) (cc 0) tt te W F:=by
 refine iN (n:=xs.length) (at_:=fun i x=>xs[i]?=some x) Pv h0 (fun i ys H' hi p=>?_) hs hd
 obtain ⟨z1,z2⟩:=hz i ys H' hi p
 exact ⟨z1,fun h=>⟨xs,xs[i],z2,by simp [h]⟩,fun h=>⟨xs,z2,by omega⟩,fun x H2 hy=>⟨hy.1,hy.2 xs z2⟩⟩
theorem nj {lo:Int}{n:Nat}{tt:TT}{te:TE}{rest:St}{H:Hp}{F:List V->Hp->Prop}(Pv:Nat->List V->Hp->Prop)(h0:Pv 0 [] H)
 (hz:∀ i ys H',i≤n->Pv i ys H'->ys.length < sizeLine)
 (hs:∀ i ys H' (N:List V->Hp->Prop),i < n->Pv i ys H'->(∀ zs H5,Pv (i + 1) zs H5->N zs H5) →
  tt (some (.int (lo + i)):: rest) H' fun b H4=>if b=true then te (some (.int (lo + i)):: rest) H4 fun y H5=>N (ys++[y]) H5 else N ys H4)
 (hd:∀ ys H',Pv n ys H'->F ys H'):
 ∃ W:Nat->Nat->List V->St->Hp->Prop,(∃ m,W 0 m [] (none :: rest) H)∧i5 (yk lo n) (cc 0) tt te W F:=by
 refine iN (n:=n) (at_:=fun i x=>x = .int (lo + i)) Pv h0 (fun i ys H' hi p=>?_) (fun i x ys H' N h1 h2=>by subst h2; exact hs i ys H' N h1) hd
 exact ⟨hz i ys H' hi p,fun h=>h,fun h=>by show n≤i; omega,fun x H2 hy=>hy⟩
section
variable {X:Cx}
def yW (K:PySem.W.Frag):R2:=fun x y H Q=>∃ p q xs,x = .ref p∧y = .ref q∧a7 K H p xs∧a7 K H q []∧Q (.bl (!decide (xs=[]))) H
theorem vp {k:Nat}(hr:Room k X.A):dz X (compareOp .NotEq) (yW X.K):=by
 intro pins s σ H x y v u Q I rx ry h
 obtain ⟨p,q,xs,rfl,rfl,h1,h2,w⟩:=h
 by_cases e:xs=[]
 ·subst e
  refine pj hr pins s σ H _ _ v u Q I rx ry ⟨.lst [],.lst [],?_,?_,by decide,w⟩
  ·unfold aF; exact ⟨p,[],rfl,h1,by unfold aV; rfl⟩
  ·unfold aF; exact ⟨q,[],rfl,h2,by unfold aV; rfl⟩
 ·cases (show v=Value.ref p from rx)
  cases (show u=Value.ref q from ry)
  obtain ⟨its,r1,p1,_⟩:=I.list h1
  obtain ⟨its2,r2,p2,_⟩:=I.list h2
  cases r2
  have hl:=r1.length
  have hx:xs.length≠0:=fun z=>e (List.eq_nil_of_length_eq_zero z)
  have hs:(its.toArray.size != ([]:List Value).toArray.size)=true:=by
   have:its.toArray.size≠0:=by rw [List.size_toArray]; omega
   simpa using this
  exact SeqAt.RcNeAt.lists_lengths p1.isList p2.isList hs hr.units0 X.prog X.w X.xe _ ⟨.bl true,H,I,rfl,by simpa [e] using w⟩
end
end L2
namespace K05
open PySem L2 PySem.W Nm Srt Dg
abbrev BW:Stmt:=(aY 16)
abbrev Bz:Stmt:=(aY 17)
abbrev zY:Stmt:=(aY 18)
abbrev Be:Stmt:=(aY 24)
theorem lB (t:Int):(if t < 0 then -t else t)=(t.natAbs:Int):=by split <;> omega
def uT (t b:Int):Str:=if b=1 then tx t.natAbs else tx t.natAbs++(Str.ofString "/"++tx b.natAbs)
def nm (k:Int):Str:=Str.ofString "x"++tx k.natAbs
def fT (t:Tm):List Str:=if t.1=[]∨t.2.1.natAbs≠1∨t.2.2≠1 then uT t.2.1 t.2.2 :: t.1.map nm else t.1.map nm
def tT (t:Tm):Str:=Str.join (Str.ofString "*") (fT t)
def gS (t:Tm):Str:=if t.2.1 < 0 then Str.ofString " - " else Str.ofString " + "
def gR (t:Tm):Str:=if t.2.1 < 0 then Str.ofString "-" else Str.ofString ""
def eW (ts:List Tm):List Str:=ts.flatMap fun t=>[gS t,tT t]
def sC:List Tm->Str
 | []=>Str.ofString "0"
 | t :: ts=>gR t++(tT t++jy (eW ts))
structure Wr (t:Tm):Prop where
 w1:Wt t.2.1.natAbs
 w2:Wt t.2.2.natAbs
 b1:1≤t.2.2
 k:∀ k∈t.1,0≤k∧k < 60
 l:t.1.length≤60
theorem lP (sep:Str):∀ ts:List Str,(Str.join sep ts).length≤(ts.map (·.length)).sum + ts.length * sep.length
 | []=>by simp [Str.join,Str.empty,Str.length]
 | [t]=>by simp [Str.join]
 | t :: u :: ts=>by
   show (t++sep++Str.join sep (u :: ts)).length≤_
   have ih:=lP sep (u :: ts)
   rw [Str.length_append,Str.length_append,List.map_cons,List.sum_cons,List.length_cons,Nat.add_mul]
   omega
theorem yO {k:Int}(h:0≤k∧k < 60):(nm k).length≤61:=by
 unfold nm
 rw [Str.length_append]
 have h1:(tx k.natAbs).length≤60:=ki (by decide) (Nat.lt_of_lt_of_le (show k.natAbs < 60 by omega) (by decide))
 have h2:(Str.ofString "x").length=1:=by decide +kernel
 omega
theorem tU {t:Tm}(h:Wr t):(uT t.2.1 t.2.2).length≤3801:=by
 unfold uT
 have h1:=h.w1.len
 have h2:=h.w2.len
 have h3:(Str.ofString "/").length=1:=by decide +kernel
 split
 ·omega
 ·rw [Str.length_append,Str.length_append]
  omega
theorem pF {ts:List Str}{n:Nat}(h:∀ t∈ts,t.length≤n):(ts.map (·.length)).sum≤n * ts.length:=by
 induction ts with
 | nil=>simp
 | cons t ts ih =>
   have h1:=h t List.mem_cons_self
   have h2:=ih fun u hu=>h u (List.mem_cons_of_mem _ hu)
   rw [List.map_cons,List.sum_cons,List.length_cons,Nat.mul_add]
   omega
theorem pN {t:Tm}(h:Wr t):((fT t).map (·.length)).sum + (fT t).length * 1≤10000:=by
 have h1:((t.1.map nm).map (·.length)).sum≤61 * (t.1.map nm).length:=pF fun u hu=>by
  obtain ⟨k,hk,rfl⟩:=List.mem_map.mp hu
  exact yO (h.k k hk)
 have h2:=tU h
 have h3:=h.l
 rw [List.length_map] at h1
 unfold fT
 split
 ·rw [List.map_cons,List.sum_cons,List.length_cons,List.length_map]
  omega
 ·rw [List.length_map]
  omega
theorem iY {t:Tm}(h:Wr t):(tT t).length≤10000:=by
 unfold tT
 have h1:=lP (Str.ofString "*") (fT t)
 have h2:=pN h
 have h3:(Str.ofString "*").length=1:=by decide +kernel
 rw [h3] at h1
 omega
theorem kg:∀ (n:Nat)(i:Int),dC i (n + 1)=dC i n++[i + n]
 | 0,i=>by simp [dC]
 | n + 1,i=>by
   show i :: dC (i + 1) (n + 1)=i :: (dC (i + 1) n++[i + ((n + 1:Nat):Int)])
   rw [kg n (i + 1)]
   congr 3
   push_cast
   omega
theorem pX:∀ (n:Nat)(i:Int)(j:Nat),j < n->(dC i n)[j]?=some (i + j)
 | 0,i,j,h=>absurd h (Nat.not_lt_zero _)
 | n + 1,i,0,h=>by simp [dC]
 | n + 1,i,j + 1,h=>by
   show (dC (i + 1) n)[j]?=_
   rw [pX n (i + 1) j (by omega)]
   congr 1
   push_cast
   omega
theorem lz (ts:List Tm):(eW ts).length=2 * ts.length:=by
 induction ts with
 | nil=>rfl
 | cons t ts ih =>
   have e:eW (t :: ts)=gS t :: tT t :: eW ts:=by simp [eW]
   rw [e,List.length_cons,List.length_cons,ih,List.length_cons]
   omega
theorem m9 {c:Bool}{a b:Str}{σ:St}{H:Hp}{Q:VK}(h:Q (.str (if c=true then a else b)) H):if c=true then tC (.str a) σ H Q else tC (.str b) σ H Q:=by
 cases c <;> exact h
def spSU:Sp:=fun vs H Q _=>∃ (a:Addr)(t b:Int),vs=[.ref a]∧H a=some (bA t b)∧Wt t.natAbs∧Wt b.natAbs∧1≤b∧∀ H',aA H H'->Q (.str (uT t b)) H'
def spST:Sp:=fun vs H Q _=>∃ (l pr nu:Addr)(t:Tm),vs=[.ref l,.ref pr,.ref nu]∧H l=some (.lst (((dC 0 60).map nm).map V.str))∧H pr=some (.tup (t.1.map V.int))∧H nu=some (bA t.2.1 t.2.2)∧Wr t∧∀ H',aA H H'->Q (.str (tT t)) H'
def spSTs:Sp:=fun vs H Q _=>∃ (l D:Addr)(zs:List V)(ts:List Tm),vs=[.ref l,.ref D]∧H l=some (.lst (((dC 0 60).map nm).map V.str))∧H D=some (.lst zs)∧aZ H zs ts∧ts.length < 64∧(∀ t∈ts,Wr t)∧∀ H',aA H H'->Q (.str (sC ts)) H'
def spPN:Sp:=fun vs H Q _=>vs=[]∧∀ l,H l=none->Q (.ref l) (upd H l (.lst (((dC 0 60).map nm).map V.str)))
theorem Av:FnScope ["number","top"] ["number"] (ao BW):=dB (by decide +kernel)
theorem zi:FnScope ["names","product","number","factors"] ["names","product","number"] (ao Bz):=dB (by decide +kernel)
theorem qa:FnScope ["names","terms","words","product","number"] ["names","terms"] (ao zY):=dB (by decide +kernel)
theorem Bm:FnScope [] [] (ao Be):=dB (by decide +kernel)
theorem kQ {s:Str}(h:s.length≤20000):s.length≤sizeLine:=Nat.le_trans h (by decide)
variable {P:Program}{w:World}{K:PySem.W.Frag}{mg:Str->Option Value}{base:Heap}
theorem oy {f fs:Addr}{fd fds:FuncData}(F:Fun K "shown_unsigned" "shown_unsigned" BW f fd)(m_abs:mg "abs"=none)
 (FSW:FnOk P w K mg base (bh P w) 1 fs fds ["number"] spSW)(bSW:L2.ay K fds ["number"] [])(mSW:mg "shown_whole"=some (.ref fs))(kSW:keepIn K (.ref fs)=true):FnOk P w K mg base (bh P w) 2 f fd ["number"] spSU:=by
 refine F.okN Av (fun vs H Q E h=>?_) (fun cdv A outer s H vs Q E hr h=>?_)
 ·obtain ⟨a,t,b,rfl,_⟩:=h
  rfl
 ·obtain ⟨a,t,b,rfl,ha,w1,w2,b1,q⟩:=h
  have hr1:Room 1 _:=hr.mono (by decide)
  refine ⟨_,(ai (@aJ _ _ 1 _ _ _ _ Av.nd rfl (Or.inl rfl) (av FSW hr1 (by rfl) mSW kSW bSW .nil ae (@aj _ _ _ _ _ (aH cN (by rfl) m_abs (by rfl) (@aj _ _ _ _ _ (@aK _ _ _ _ _ _ _ aS (pv 0) ah (fun _ _=>rfl)) af rfl)) af rfl)) rfl (Or.inl rfl))
   (ai (bt (@aE _ _ _ _ _ _ _ _ cx (@aK _ _ _ _ _ _ _ aS (pv 0) ah (fun _ _=>rfl)) ah (ax _)) (aq (az (pv 1))) aO)
   (aq (az (ko (cB (lJ (pv 1)) (cB aU (cB (lJ (av FSW hr1 (by rfl) mSW kSW bSW .nil ae (@aj _ _ _ _ _ (@aK _ _ _ _ _ _ _ aS (pv 0) ah (fun _ _=>rfl)) af rfl))) oP)))))))),?_⟩
  refine ⟨_,rfl,a,_,0,_,rfl,rfl,bg.of ha,rfl,t,rfl,?_⟩
  rw [lB]
  refine ⟨_,rfl,w1,fun H1 s1=>?_⟩
  have ha1:=s1 _ _ ha
  refine ⟨_,rfl,a,_,1,_,rfl,rfl,bg.of ha1,rfl,rfl,_,rfl,?_⟩
  refine bF (fun h=>?_) (fun h=>?_)
  ·have eb:b=1:=by simpa using h
   refine ⟨_,rfl,?_⟩
   have e:uT t b=tx t.natAbs:=by unfold uT; rw [if_pos eb]
   rw [← e]
   exact q _ s1
  ·have eb:b≠1:=by simpa using h
   have l1:=w1.len
   have l2:=w2.len
   have l3:(Str.ofString "/").length=1:=by decide +kernel
   have l0:Str.empty.length=0:=by decide +kernel
   refine ⟨_,rfl,_,rfl,kQ (by omega),_,rfl,kQ (by rw [Str.length_append]; omega),?_⟩
   refine ⟨_,rfl,kQ (by rw [Str.length_append,Str.length_append]; omega),?_⟩
   refine ⟨_,rfl,a,_,1,_,rfl,rfl,bg.of ha1,rfl,?_⟩
   refine ⟨b.natAbs,by rw [show ((b.natAbs:Nat):Int)=b by omega]; rfl,w2,fun H2 s2=>?_⟩
   refine ⟨_,rfl,kQ (by omega),_,rfl,kQ (by rw [Str.length_append,Str.length_append,Str.length_append]; omega),kQ (by rw [Str.length_append,Str.length_append,Str.length_append]; omega),?_⟩
   have e:uT t b=Str.empty++tx t.natAbs++Str.ofString "/"++tx b.natAbs:=by unfold uT; rw [if_neg eb,iD,gY]
   rw [← e]
   exact q _ (s1.trans s2)
theorem rW {f:Addr}{fd:FuncData}{tM:Tok}(F:Fun K "place_names" "place_names" Be f fd)(m_range:mg "range"=none)(mMP:mg "MOST_PLACES"=some (.int 60 tM)):FnOk P w K mg base (bh P w) 1 f fd [] spPN:=by
 refine F.okN Bm (fun vs H Q E h=>?_) (fun cdv A outer s H vs Q E hr h=>?_)
 ·obtain ⟨rfl,_⟩:=h
  rfl
 ·obtain ⟨rfl,q⟩:=h
  refine ⟨_,(aq (az (dG (N:=["place"]) (nl:=1) (js:=[]) (osc:=ao Be) ⟨rfl,rfl,by decide +kernel,by decide +kernel,by decide +kernel,rfl,.nil,by decide +kernel⟩ rfl
   (eA (by rfl) m_range (@aj _ _ _ _ _ (cj (by rfl) mMP (show aC (.int 60) (.int 60 tM) from ⟨_,rfl⟩)) af rfl))
   (fun C fp s H=>aG (i:=0) (by show (["place"]:List Str).Nodup; decide +kernel) rfl (Or.inl rfl) (Or.inr rfl))
   (fun C fp s H=>dE)
   (fun C fp s H=>(ko (cB aU (cB (qk (pv 0)) oP))))))),?_⟩
  refine ⟨60,rfl,by decide,by decide,?_⟩
  refine nj (n:=60) (fun i us H'=>H=H'∧us=((dC 0 i).map nm).map V.str) ⟨rfl,rfl⟩ (fun i us H' hi h=>?_) (fun i us H' N hi h k=>?_) (fun us H1 h=>?_)
  ·obtain ⟨rfl,rfl⟩:=h
   rw [List.length_map,List.length_map,mw]
   exact Nat.lt_of_le_of_lt hi (by decide)
  ·obtain ⟨rfl,rfl⟩:=h
   have hw:(tx i).length≤60:=ki (by decide) (Nat.lt_of_lt_of_le hi (by decide))
   have l1:(Str.ofString "x").length=1:=by decide +kernel
   have l0:Str.empty.length=0:=by decide +kernel
   have hk:Str.ofString (toString (0 + (i:Int)))=tx i:=by rw [Int.zero_add]; exact fV i
   refine xq ⟨_,rfl,kQ (by rw [Str.length_append]; omega),_,rfl,_,rfl,?_,?_⟩
   ·have:(0 + (i:Int)).natAbs=i:=by omega
    rw [this]
    exact Nat.lt_of_lt_of_le (ie (k:=60) (by decide) (Nat.lt_of_lt_of_le hi (by decide))) (by decide)
   ·rw [hk]
    refine ⟨_,rfl,kQ (by rw [Str.length_append,Str.length_append]; omega),kQ (by rw [Str.length_append,Str.length_append]; omega),k _ _ ⟨rfl,?_⟩⟩
    rw [kg,List.map_append,List.map_append]
    have e:nm (0 + (i:Int))=Str.empty++Str.ofString "x"++tx i:=by unfold nm; rw [iD,show (0 + (i:Int)).natAbs=i by omega]
    rw [← e]
    rfl
  ·obtain ⟨rfl,rfl⟩:=h
   intro l hl
   exact q l hl
theorem tP {k:Int}(h:0≤k∧k < 60):pA (((dC 0 60).map nm).map V.str) k=some (.str (nm k)):=by
 obtain ⟨j,rfl⟩:∃ j:Nat,k=(j:Int):=⟨k.toNat,by omega⟩
 refine hU ?_
 rw [List.getElem?_map,List.getElem?_map,pX 60 0 j (by omega)]
 simp
set_option maxHeartbeats 1000000 in
theorem kx {f fu:Addr}{fd fdu:FuncData}(F:Fun K "shown_term" "shown_term" Bz f fd)(m_abs:mg "abs"=none)
 (FSU:FnOk P w K mg base (bh P w) 2 fu fdu ["number"] spSU)(bSU:L2.ay K fdu ["number"] [])(mSU:mg "shown_unsigned"=some (.ref fu))(kSU:keepIn K (.ref fu)=true):FnOk P w K mg base (bh P w) 3 f fd ["names","product","number"] spST:=by
 refine F.okN zi (fun vs H Q E h=>?_) (fun cdv A outer s H vs Q E hr h=>?_)
 ·obtain ⟨l,pr,nu,t,rfl,_⟩:=h
  rfl
 ·obtain ⟨l,pr,nu,⟨ks,t,b⟩,rfl,hl,hpr,hnu,wr,q⟩:=h
  have hr2:Room 2 _:=hr.mono (by decide)
  have hpr:H pr=some (.tup (ks.map V.int)):=hpr
  have hnu:H nu=some (bA t b):=hnu
  have hk:∀ k∈ks,0≤k∧k < 60:=wr.k
  have hkl:ks.length≤60:=wr.l
  refine ⟨_,(ai (g9 (i:=3) (N:=["place","names"]) (nl:=1) (js:=[0]) (osc:=ao Bz) ⟨rfl,rfl,by decide +kernel,by decide +kernel,by decide +kernel,rfl,(.cons ⟨rfl,by decide +kernel⟩ .nil),by decide +kernel⟩ rfl zi.nd rfl (Or.inl rfl)
   (pL (pv 1))
   (fun C fp s H=>aG (i:=0) (by show (["place","names"]:List Str).Nodup; decide +kernel) rfl (Or.inl rfl) (Or.inr rfl))
   (fun C fp s H=>dE)
   (fun C fp s H=>(@aK _ _ _ _ _ _ _ (show zZ _ (Am K) from bc) (pv 1) (pv 0) (fun _ _=>rfl))) (by rfl))
   (ai (bt (PW.pt (dh (cz (iV (pv 3) (fun _=>rfl))) (dh (@aE _ _ _ _ _ _ _ _ dw (aH cN (by rfl) m_abs (by rfl) (@aj _ _ _ _ _ (@aK _ _ _ _ _ _ _ aS (pv 2) ah (fun _ _=>rfl)) af rfl)) ah (ax _)) (cL (@aE _ _ _ _ _ _ _ _ dw (@aK _ _ _ _ _ _ _ aS (pv 2) ah (fun _ _=>rfl)) ah (ax _)))))) (aq (@aJ _ _ 3 _ _ _ _ zi.nd rfl (Or.inl rfl) (@aD _ _ _ _ _ _ _ _ ky (@bf _ _ _ _ (@aj _ _ _ _ _ (av FSU hr2 (by rfl) mSU kSU bSU .nil ae (@aj _ _ _ _ _ (pv 2) af rfl)) af rfl)) (pv 3)) rfl (Or.inl rfl))) aO)
   (aq (az (eJ PySem.F.plainAttrs_str PySem.F.slot_str_join PySem.F.type_str_join hV aU (@aj _ _ _ _ _ (pv 3) af rfl)))))),?_⟩
  refine ⟨_,rfl,pr,rfl,⟨_,bg.of hpr⟩,?_⟩
  refine lU (xs:=ks.map V.int) (fun i us H'=>H=H'∧us=((ks.take i).map nm).map V.str) ⟨rfl,rfl⟩ (fun i us H' hi h=>?_) (fun i y us H' N hi hy h k=>?_) (fun us H' h=>?_)
  ·obtain ⟨rfl,rfl⟩:=h
   exact ⟨Nat.lt_of_le_of_lt (show _≤60 by simp; omega) (by decide),bg.of hpr⟩
  ·obtain ⟨rfl,rfl⟩:=h
   rw [List.getElem?_map] at hy
   obtain ⟨x,hx,rfl⟩:=Option.map_eq_some_iff.mp hy
   have e2:ks.take (i + 1)=ks.take i++[x]:=by rw [List.take_add_one,hx]; rfl
   refine xq ⟨_,rfl,_,rfl,l,_,x,_,rfl,rfl,a7.of hl,tP (hk x (List.mem_of_getElem? hx)),k _ _ ⟨rfl,?_⟩⟩
   rw [e2,List.map_append,List.map_append]
   rfl
  obtain ⟨rfl,rfl⟩:=h
  rw [List.length_map,List.take_length]
  intro L hL
  have s1:=ak (o:=.lst ((ks.map nm).map V.str)) hL
  have e1:upd H L (.lst ((ks.map nm).map V.str)) L=some (.lst ((ks.map nm).map V.str)):=ag
  generalize upd H L _=H1 at s1 e1 ⊢
  have hnu1:=s1 _ _ hnu
  have fsum:=pN wr
  have fin:∀ (H2:Hp)(L2:Addr),aA H H2->H2 L2=some (.lst ((fT (ks,t,b)).map V.str)) →
   (Bo K "str" (uu K) (tC (.str (Str.ofString "*"))) (cG (dJ 3) tNil)) ([some (.ref l),some (.ref pr),some (.ref nu),some (.ref L2)]:St) H2 Q:=by
   intro H2 L2 s2 e2
   refine ⟨rfl,_,rfl,_,L2,_,rfl,rfl,a7.of e2,?_,q _ s2⟩
   rw [show (Str.ofString "*").length=1 from by decide +kernel]
   omega
  have ahead:(ks=[]∨t.natAbs≠1∨b≠1)->∀ J,aA H1 J->(vj (n5 rCat (xw (cG (uy spSU [] (fun _ _ _=>False) (cG (dJ 2) tNil)) tNil)) (dJ 3)) (cc 3)) { nx:=fun σ H'=>(zF (Bo K "str" (uu K) (tC (.str (Str.ofString "*"))) (cG (dJ 3) tNil))) { nx:=fun _ H'=>Q .non H',rt:=Q } σ H',rt:=Q } ([some (.ref l),some (.ref pr),some (.ref nu),some (.ref L)]:St) J:=by
   intro c J sJ
   refine ⟨_,rfl,nu,t,b,rfl,sJ _ _ hnu1,wr.w1,wr.w2,wr.b1,fun H2 s2=>?_⟩
   refine ⟨we,fun p hp=>?_⟩
   have r3:=ak (o:=.lst [.str (uT t b)]) hp
   have e3:upd H2 p (.lst [.str (uT t b)]) p=some (.lst [.str (uT t b)]):=ag
   generalize upd H2 p _=H3 at r3 e3 ⊢
   have eL3:=r3 _ _ (s2 _ _ (sJ _ _ e1))
   refine ⟨_,rfl,p,L,_,_,rfl,rfl,e3,eL3,Nat.le_trans (show _≤61 by simp; omega) (by decide),fun p2 hp2=>?_⟩
   have r4:=ak (o:=.lst ([.str (uT t b)]++(ks.map nm).map V.str)) hp2
   refine fin _ p2 ((((s1.trans sJ).trans s2).trans r3).trans r4) ?_
   rw [ag]
   unfold fT
   rw [if_pos c]
   rfl
  refine ⟨_,rfl,!((ks.map nm).map V.str).isEmpty,.inl ⟨_,a7.of e1,rfl⟩,?_⟩
  by_cases hk0:ks=[]
  ·have z:(((ks.map nm).map V.str).isEmpty)=true:=by rw [hk0]; rfl
   rw [z]
   exact cf (cf (ahead (.inl hk0) _ (aA.refl _)))
  have z:(((ks.map nm).map V.str).isEmpty)=false:=by
   cases ks with
   | nil=>exact absurd rfl hk0
   | cons _ _=>rfl
  rw [z]
  refine cq ⟨_,rfl,nu,_,0,_,rfl,rfl,bg.of hnu1,rfl,t,rfl,?_⟩
  rw [lB]
  refine ⟨rfl,_,rfl,?_⟩
  refine bF (fun h=>?_) (fun h=>?_)
  ·have c:t.natAbs≠1:=fun e=>by rw [e] at h; simp at h
   exact cf (ahead (.inr (.inl c)) _ (aA.refl _))
  have c1:t.natAbs=1:=by
   have:((t.natAbs:Nat):Int)=1:=by simpa using h
   omega
  refine ⟨_,rfl,nu,_,1,_,rfl,rfl,bg.of hnu1,rfl,rfl,_,rfl,?_⟩
  refine bF (fun h=>?_) (fun h=>?_)
  ·have c:b≠1:=fun e=>by rw [e] at h; simp at h
   exact ahead (.inr (.inr c)) _ (aA.refl _)
  have c2:b=1:=by simpa using h
  refine fin _ L s1 ?_
  rw [e1]
  unfold fT
  rw [if_neg (fun c=>by
   rcases c with c | c | c
   ·exact hk0 c
   ·exact c c1
   ·exact c c2)]
set_option maxHeartbeats 1000000 in
theorem jD {f ft:Addr}{fd fdt:FuncData}(F:Fun K "shown_terms" "shown_terms" zY f fd)
 (FST:FnOk P w K mg base (bh P w) 3 ft fdt ["names","product","number"] spST)(bST:L2.ay K fdt ["names","product","number"] [])(mST:mg "shown_term"=some (.ref ft))(kST:keepIn K (.ref ft)=true):FnOk P w K mg base (bh P w) 4 f fd ["names","terms"] spSTs:=by
 refine F.okN qa (fun vs H Q E h=>?_) (fun cdv A outer s H vs Q E hr h=>?_)
 ·obtain ⟨l,D,zs,ts,rfl,_⟩:=h
  rfl
 ·obtain ⟨l,D,zs,ts,rfl,hl,hD,ht,h64,wr,q⟩:=h
  have hr3:Room 3 _:=hr.mono (by decide)
  refine ⟨_,(ai (bt (cz (iV (pv 1) (fun _=>rfl))) (aq (az aU)) aO)
   (ai (@aJ _ _ 2 _ _ _ _ qa.nd rfl (Or.inl rfl) (@bf _ _ _ _ af) rfl (Or.inl rfl))
   (ai (dS PassesOwn.never rfl (cW (pv 1)) (cH rfl (aN (aG (i:=3) qa.nd rfl (Or.inl rfl)) (aN (aG (i:=4) qa.nd rfl (Or.inl rfl)) b7)))
   (ai (fP (eJ PySem.F.plainAttrs_list PySem.F.slot_list_append PySem.F.type_list_append de (pv 2) (@aj _ _ _ _ _ (mi (@aE _ _ _ _ _ _ _ _ gO (@aK _ _ _ _ _ _ _ aS (pv 4) ah (fun _ _=>rfl)) ah (ax _)) aU aU) af rfl)))
   (aq (fP (eJ PySem.F.plainAttrs_list PySem.F.slot_list_append PySem.F.type_list_append de (pv 2) (@aj _ _ _ _ _ (av FST hr3 (by rfl) mST kST bST .nil ae (@aj _ _ _ _ _ (pv 0) (@aj _ _ _ _ _ (pv 3) (@aj _ _ _ _ _ (pv 4) af rfl) rfl) rfl)) af rfl))))))
   (ai (eZ (mi (@aE _ _ _ _ _ _ _ _ cx (@aK _ _ _ _ _ _ _ bc (pv 2) ah (fun _ _=>rfl)) aU (ax _)) aU aU) (lD (pv 2) ah fL))
   (aq (az (eJ PySem.F.plainAttrs_str PySem.F.slot_str_join PySem.F.type_str_join hV aU (@aj _ _ _ _ _ (pv 2) af rfl)))))))),?_⟩
  have zl:=ht.length
  refine ⟨_,rfl,!zs.isEmpty,.inl ⟨_,a7.of hD,rfl⟩,?_⟩
  cases ts with
  | nil =>
    have z:zs=[]:=by cases ht; rfl
    subst z
    exact cf (q _ (aA.refl _))
  | cons t0 tr =>
    have z:zs.isEmpty=false:=by
     cases zs with
     | nil=>cases ht
     | cons _ _=>rfl
    rw [z]
    refine cq ⟨Nat.zero_le _,fun L hL=>?_⟩
    have s1:=ak (o:=.lst []) hL
    have e1:upd H L (.lst []) L=some (.lst []):=ag
    generalize upd H L (.lst [])=H1 at s1 e1 ⊢
    have nDL:D≠L:=au hD hL
    have nlL:l≠L:=au hl hL
    refine ⟨_,rfl,D,rfl,⟨_,a7.of (s1 _ _ hD)⟩,?_⟩
    refine ic (K:=K) (a:=D) (xs:=zs) (fun j σ H'=>aA H H'∧H' L=some (.lst ((eW ((t0 :: tr).take j)).map V.str))∧∃ o3 o4,σ=[some (.ref l),some (.ref D),some (.ref L),o3,o4]) ⟨s1,e1,_,_,rfl⟩ (fun j σ H' _ h=>a7.of (h.1 _ _ hD)) ?_ ?_
    ·rintro j y σ H' hy ⟨sj,eL,o3,o4,rfl⟩
     obtain ⟨t,et,at_,pr,nu,rfl,hat,hpr,hnu⟩:=bH ht hy
     have tm:=List.mem_of_getElem? et
     have hj:j < 64:=by
      have:=(List.getElem?_eq_some_iff.mp et).1
      omega
     have esn:(t0 :: tr).take (j + 1)=(t0 :: tr).take j++[t]:=by rw [List.take_add_one,et]; rfl
     have ll:((eW ((t0 :: tr).take j)).map V.str).length≤200:=by
      rw [List.length_map]
      have:=lz ((t0 :: tr).take j)
      rw [List.length_take] at this
      omega
     refine ⟨at_,_,rfl,bg.of (sj _ _ hat),rfl,_,_,rfl,_,_,rfl,rfl,?_⟩
     refine ⟨_,rfl,.inl ⟨rfl,_,a7.of eL⟩,_,rfl,nu,_,0,_,rfl,rfl,bg.of (sj _ _ hnu),rfl,_,_,rfl,rfl,_,rfl,?_⟩
     refine m9 ?_
     have ew:(if decide (t.2.1 < 0)=true then Str.ofString " - " else Str.ofString " + ")=gS t:=by unfold gS; simp
     rw [ew]
     refine ⟨L,_,_,rfl,rfl,eL,Nat.lt_of_le_of_lt ll (by decide),?_⟩
     have e2:upd H' L (.lst ((eW ((t0 :: tr).take j)).map V.str++[.str (gS t)])) L=some (.lst ((eW ((t0 :: tr).take j)).map V.str++[.str (gS t)])):=ag
     have s2:aA H (upd H' L (.lst ((eW ((t0 :: tr).take j)).map V.str++[.str (gS t)]))):=fun c u e=>by rw [ar (au e hL)]; exact sj _ _ e
     generalize upd H' L _=H2 at e2 s2 ⊢
     refine ⟨_,rfl,.inl ⟨rfl,_,a7.of e2⟩,_,rfl,_,rfl,_,rfl,l,pr,nu,t,rfl,s2 _ _ hl,s2 _ _ hpr,s2 _ _ hnu,wr t tm,fun H3 s3=>?_⟩
     refine ⟨L,_,_,rfl,rfl,s3 _ _ e2,Nat.lt_of_le_of_lt (show _≤201 by rw [List.length_append,List.length_singleton]; omega) (by decide),fun c u e=>?_,?_,_,_,rfl⟩
     ·rw [ar (au e hL)]; exact s3 _ _ (s2 _ _ e)
     ·rw [ag,esn]
      unfold eW
      rw [List.flatMap_append,List.map_append]
      simp
    ·rintro σ H' ⟨sj,eL,o3,o4,rfl⟩
     rw [zl,List.take_length] at eL
     have ef:(eW (t0 :: tr)).map V.str=V.str (gS t0):: V.str (tT t0):: (eW tr).map V.str:=by simp [eW]
     rw [ef] at eL
     refine ⟨_,rfl,L,_,0,_,rfl,rfl,a7.of eL,hU (xs:=V.str (gS t0):: V.str (tT t0):: (eW tr).map V.str) (j:=0) rfl,rfl,_,rfl,?_⟩
     refine m9 ?_
     have es:(if decide (V.str (gS t0)=V.str (Str.ofString " - "))=true then Str.ofString "-" else Str.ofString "")=gR t0:=by
      unfold gS gR
      by_cases n:t0.2.1 < 0
      ·rw [if_pos n,if_pos n,decide_eq_true rfl]; rfl
      ·rw [if_neg n,if_neg n,decide_eq_false (by decide +kernel)]; rfl
     rw [es]
     refine ⟨_,rfl,L,_,0,0,rfl,rfl,eL,(by unfold wb; rw [if_pos (Int.le_refl 0),if_pos (by simp only [List.length_cons]; omega)]; rfl),?_⟩
     have s5:aA H (upd H' L (.lst ((V.str (gS t0):: V.str (tT t0):: (eW tr).map V.str).set 0 (.str (gR t0))))):=fun c u e=>by rw [ar (au e hL)]; exact sj _ _ e
     have e5:upd H' L (.lst ((V.str (gS t0):: V.str (tT t0):: (eW tr).map V.str).set 0 (.str (gR t0)))) L=some (.lst ((gR t0 :: tT t0 :: eW tr).map V.str)):=ag
     generalize upd H' L _=H5 at s5 e5 ⊢
     refine ⟨rfl,_,rfl,_,L,_,rfl,rfl,a7.of e5,?_,?_⟩
     ·have hs:∀ u∈gR t0 :: tT t0 :: eW tr,u.length≤10000:=by
       intro u hu
       rcases List.mem_cons.mp hu with rfl | hu
       ·unfold gR; split <;> decide +kernel
       rcases List.mem_cons.mp hu with rfl | hu
       ·exact iY (wr t0 List.mem_cons_self)
       ·unfold eW at hu
        obtain ⟨t,tm,hu⟩:=List.mem_flatMap.mp hu
        rcases List.mem_cons.mp hu with rfl | hu
        ·unfold gS; split <;> decide +kernel
        ·have:u=tT t:=by simpa using hu
         rw [this]
         exact iY (wr t (List.mem_cons_of_mem _ tm))
      have h1:=pF hs
      have h2:=lz tr
      have h3:tr.length < 64:=by simp at h64; omega
      rw [show (Str.ofString "").length=0 from by decide +kernel]
      simp only [List.length_cons] at h1 ⊢
      omega
     ·rw [il]
      exact q _ s5
abbrev AF:Stmt:=ba (aY 25) 1
abbrev x3:Stmt:=ba (aY 25) 2
abbrev xO:Stmt:=ba (aY 25) 3
abbrev uK:Stmt:=ba (aY 25) 4
structure SumQ (K:Frag)(mg:Str->Option Value)(C:Addr):Prop where
 c:SumK K mg C
 isC:((clsIn K C).isSome&&typeIn K (.ref C) == some (.type "type"))=true
 ca:findIn K (.ref C) "__class__"=some (some (.builtin "object.__class__"))
 sp:specialIn K (.builtin "object.__class__") "__get__"=some (some (.builtin "getset_descriptor.__get__"))
 tk:takesIn K (.builtin "object.__class__")=some true
 ob:mroIn K C (.type "object")=some true
theorem SumQ.ty {K:Frag}{mg:Str->Option Value}{C:Addr}(c:SumQ K mg C){H:Hp}{p dx:Addr}{fs:List (Str × V)}(e:H p=some (.ins C dx fs)):TyX K H (.ref p) (.ref C):=.of (.ins e c.c.cl c.ca c.sp c.tk c.ob)
theorem SumQ.is {K:Frag}{mg:Str->Option Value}{C:Addr}(c:SumQ K mg C):kitOne K (.ref C) (.ref C)=some true:=by
 unfold kitOne
 rw [if_pos (by simp)]
theorem SumQ.no {K:Frag}{mg:Str->Option Value}{C:Addr}(c:SumQ K mg C){H:Hp}{x:V}{T:String}(h:Th H x T):kitOne K (.type T) (.ref C)=some false:=by
 show (if (Value.type T == Value.ref C)=true then some true else (if ((clsIn K C).isSome&&typeIn K (.ref C) == some (.type "type"))=true then subIn K (.type T) (.ref C) else none))=some false
 rw [if_neg (by intro z; cases beq_iff_eq.mp z),if_pos c.isC]
 cases h <;> rfl
theorem fX {K:Frag}{C:Addr}:notFirst K C (.ref C)=true:=by unfold notFirst; simp
theorem zK {K:Frag}{C:Addr}{H:Hp}{x:V}{T:String}(h:Th H x T):notFirst K C (.type T)=true:=by
 unfold notFirst
 cases h <;> rfl
def wd (t:Tm):D:=.tup [.tup (t.1.map D.int),.tup [.int t.2.1,.int t.2.2]]
theorem xU {K:Frag}{H:Hp}:∀ ns:List Int,aV K H (ns.map D.int) (ns.map V.int)
 | []=>by unfold aV; rfl
 | n :: ns=>by
   show aV K H (.int n :: ns.map D.int) (.int n :: ns.map V.int)
   unfold aV
   exact ⟨_,_,rfl,(by unfold aF; rfl),xU ns⟩
theorem zM:∀ ns:List Int,dt (ns.map D.int)=0
 | []=>by simp [dt]
 | n :: ns=>by rw [List.map_cons]; unfold dt; rw [zM ns]; simp [iX]
theorem xb {K:Frag}{H:Hp}{y:V}{t:Tm}(h:zu H y t):aF K H (wd t) y:=by
 obtain ⟨a,pr,nu,rfl,ha,hpr,hnu⟩:=h
 unfold wd aF
 refine ⟨a,_,rfl,bg.of ha,?_⟩
 unfold aV
 refine ⟨_,_,rfl,(by unfold aF; exact ⟨pr,_,rfl,bg.of hpr,xU _⟩),?_⟩
 unfold aV
 refine ⟨_,_,rfl,zh hnu,?_⟩
 unfold aV
 rfl
theorem l7 {K:Frag}{H:Hp}:∀ {ys:List V}{ts:List Tm},aZ H ys ts->aV K H (ts.map wd) ys
 | _,_,.nil=>by unfold aV; rfl
 | _,_,.cons (b:=t) h r=>by
   show aV K H (wd t :: _) _
   unfold aV
   exact ⟨_,_,rfl,xb h,l7 r⟩
theorem qH:∀ ts:List Tm,dt (ts.map wd)≤2
 | []=>by unfold dt; decide
 | t :: ts=>by
   show dt (wd t :: ts.map wd)≤2
   unfold dt
   have:=qH ts
   have h:iX (wd t)=2:=by
    unfold wd iX dt dt dt
    rw [Aw,show iX (.tup (t.1.map D.int))=1 from by unfold iX; rw [zM]]
    rfl
   omega
abbrev lE (ts:List Tm):D:=.lst (ts.map wd)
theorem dm {K:Frag}{H:Hp}{a:Addr}{ys:List V}{ts:List Tm}(e:H a=some (.lst ys))(h:aZ H ys ts):aF K H (lE ts) (.ref a):=by
 unfold aF
 exact ⟨a,ys,rfl,a7.of e,l7 h⟩
theorem lq (ts:List Tm):iX (lE ts)≤32:=by
 unfold iX
 have:=qH ts
 omega
theorem SumR.same {C CF:Addr}{H H':Hp}{s:Addr}{p:Int}{ts:List Tm}(h:SumR C CF H s p ts)(k:aA H H'):SumR C CF H' s p ts:=by
 obtain ⟨dx,fl,dxf,D,zs,h1,h2,h3,h4⟩:=h.ex
 exact ⟨dx,fl,dxf,D,zs,k _ _ h1,k _ _ h2,k _ _ h3,aZ.keep h4 (aB.of k)⟩
def fK (K:Frag)(C CF:Addr):Sp:=fun vs H Q _=>∃ (s:Addr)(p:Int)(ts:List Tm)(y:V),vs=[.ref s,y]∧SumR C CF H s p ts ∧
 ((∃ s' p' ts',y = .ref s'∧SumR C CF H s' p' ts'∧Q (.bl (decide (p=p')&&cT (lE ts) (lE ts'))) H)∨∃ t,TyX K H y t∧kitOne K t (.ref C)=some false∧Q (.bl false) H)
def uI (C:Addr):Sp:=fun vs H Q _=>∃ (s dx fl D:Addr)(zs:List V),vs=[.ref s]∧H s=some (.ins C dx (yA fl D))∧H D=some (.lst zs)∧Q (.int zs.length) H
def kq (C CF:Addr):Sp:=fun vs H Q _=>∃ (s:Addr)(p:Int)(ts:List Tm),vs=[.ref s]∧SumR C CF H s p ts∧ts.length < 64∧(∀ t∈ts,Wr t)∧∀ H',aA H H'->Q (.str (sC ts)) H'
def rT (p:Int)(ts:List Tm):Str:=Str.ofString "Sum("++Str.ofString (toString p)++Str.ofString ", '"++sC ts++Str.ofString "')"
def qO (C CF:Addr):Sp:=fun vs H Q _=>∃ (s:Addr)(p:Int)(ts:List Tm),vs=[.ref s]∧FP p∧SumR C CF H s p ts∧ts.length < 64∧(∀ t∈ts,Wr t)∧∀ H',aA H H'->Q (.str (rT p ts)) H'
theorem AG:FnScope ["self","other"] ["self","other"] (ao AF):=dB (by decide +kernel)
theorem yX:FnScope ["self"] ["self"] (ao x3):=dB (by decide +kernel)
theorem yB:FnScope ["self"] ["self"] (ao xO):=dB (by decide +kernel)
theorem xi:FnScope ["self"] ["self"] (ao uK):=dB (by decide +kernel)
theorem kE {ts:List Tm}(h64:ts.length < 64)(wr:∀ t∈ts,Wr t):(sC ts).length≤2000000:=by
 cases ts with
 | nil=>decide +kernel
 | cons t0 tr =>
   have hs:∀ u∈eW tr,u.length≤10000:=by
    intro u hu
    unfold eW at hu
    obtain ⟨t,tm,hu⟩:=List.mem_flatMap.mp hu
    rcases List.mem_cons.mp hu with rfl | hu
    ·unfold gS; split <;> decide +kernel
    ·have:u=tT t:=by simpa using hu
     rw [this]
     exact iY (wr t (List.mem_cons_of_mem _ tm))
   have h1:=pF hs
   have h2:=lz tr
   have h3:tr.length < 64:=by simp at h64; omega
   have h4:=iY (wr t0 List.mem_cons_self)
   have h5:(gR t0).length≤1:=by unfold gR; split <;> decide +kernel
   show (gR t0++(tT t0++jy (eW tr))).length≤_
   rw [Str.length_append,Str.length_append,kB]
   rw [h2] at h1
   omega
theorem iP {s:Str}(h:s.length≤3000000):s.length≤sizeLine:=Nat.le_trans h (by decide)
theorem FP.le {p:Int}(h:FP p):0≤p∧p≤97:=by
 rcases h with h | h
 ·omega
 ·have:∀ q∈primes,0≤q∧q≤97:=by decide
  exact this p h
theorem yc {f fe C CF:Addr}{fd fde:FuncData}(F:Fun K "__eq__" "Sum.__eq__" AF f fd)(c:SumQ K mg C)(cF:FieldK K mg CF)(m_isinstance:mg "isinstance"=none)
 (FE:FnOk P w K mg base (bh P w) 1 fe fde ["self","other"] (Az CF))(bE:L2.ay K fde ["self","other"] [])(nE:findIn K (.ref CF) "__eq__"=some (some (.ref fe)))(iE:isFn K (.ref fe)=true):
 FnOk P w K mg base (bh P w) 2 f fd ["self","other"] (fK K C CF):=by
 refine F.okN AG (fun vs H Q E h=>?_) (fun cdv A outer s H vs Q E hr h=>?_)
 ·obtain ⟨s,p,ts,y,rfl,_⟩:=h
  rfl
 ·obtain ⟨s0,p,ts,y,rfl,S,h⟩:=h
  have hr1:Room 1 _:=hr.mono (by decide)
  refine ⟨_,(aq (az (c8 (aH bx (by rfl) m_isinstance (by rfl) (@aj _ _ _ _ _ (pv 1) (@aj _ _ _ _ _ (cj (by rfl) c.c.mgC (show aC (.ref C) (.ref C) from rfl)) af rfl) rfl)) (c8 (@bp _ _ _ _ _ _ _ _ (fF nE iE FE hr1 bE ae) (ck (pv 0) rfl) (ck (pv 1) rfl) (ax _)) (fj (@bp _ _ _ _ _ _ _ _ (v9 hr) (ck (pv 0) rfl) (ck (pv 1) rfl) (ax _))))))),?_⟩
  rcases h with ⟨s1,p1,us,rfl,S1,q⟩ | ⟨t,ty,kt,q⟩
  ·obtain ⟨dx,fl,dxf,Dd,zs,h1,h2,h3,h4⟩:=S.ex
   obtain ⟨dx1,fl1,dxf1,Dd1,zs1,g1,g2,g3,g4⟩:=S1.ex
   refine ⟨_,rfl,.ref s1,.ref C,_,_,_,rfl,rfl,c.ty g1,c.is,_,rfl,cf ?_⟩
   refine ⟨_,rfl,s0,C,dx,_,_,rfl,h1,c.c.cl,c.c.nF,rfl,_,rfl,s1,C,dx1,_,_,rfl,g1,c.c.cl,c.c.nF,rfl,?_⟩
   refine ⟨fl,dxf,_,.ref CF,rfl,h2,cF.ty g2,fX,fl,dxf,p,.ref fl1,rfl,h2,.inl ⟨fl1,dxf1,p1,rfl,g2,_,rfl,_,rfl,?_⟩⟩
   have eb:(decide (p=p1) != false)=decide (p=p1):=by simp
   rw [eb]
   cases hb:decide (p=p1) with
   | false =>
     rw [hb,Bool.false_and] at q
     exact cq q
   | true =>
     rw [hb,Bool.true_and] at q
     refine cf ⟨_,rfl,s0,C,dx,_,_,rfl,h1,c.c.cl,c.c.nT,rfl,_,rfl,s1,C,dx1,_,_,rfl,g1,c.c.cl,c.c.nT,rfl,?_⟩
     refine ⟨_,_,dm h3 h4,dm g3 g4,lq _,?_⟩
     simpa using q
  ·exact ⟨_,rfl,y,.ref C,_,_,_,rfl,rfl,ty,kt,_,rfl,cq q⟩
theorem wU {f C:Addr}{fd:FuncData}(F:Fun K "__len__" "Sum.__len__" x3 f fd)(c:SumK K mg C)(m_len:mg "len"=none):FnOk P w K mg base (bh P w) 1 f fd ["self"] (uI C):=by
 refine F.okN yX (fun vs H Q E h=>?_) (fun cdv A outer s H vs Q E hr h=>?_)
 ·obtain ⟨s,dx,fl,D,zs,rfl,_⟩:=h
  rfl
 ·obtain ⟨s0,dx,fl,D,zs,rfl,hs,hD,q⟩:=h
  refine ⟨_,aq (az (aH bD (by rfl) m_len PySem.boot_len (@aj _ _ _ _ _ (ck (pv 0) rfl) af rfl))),?_⟩
  exact ⟨_,rfl,s0,C,dx,_,_,rfl,hs,c.cl,c.nT,rfl,D,zs,rfl,.inl (a7.of hD),q⟩
theorem wQ {f fs fp C CF:Addr}{fd fds fdp:FuncData}(F:Fun K "__str__" "Sum.__str__" xO f fd)(c:SumK K mg C)(m_str:mg "str"=none)
 (FSTs:FnOk P w K mg base (bh P w) 4 fs fds ["names","terms"] spSTs)(bSTs:L2.ay K fds ["names","terms"] [])(mSTs:mg "shown_terms"=some (.ref fs))(kSTs:keepIn K (.ref fs)=true)
 (FPN:FnOk P w K mg base (bh P w) 1 fp fdp [] spPN)(bPN:L2.ay K fdp [] [])(mPN:mg "place_names"=some (.ref fp))(kPN:keepIn K (.ref fp)=true):FnOk P w K mg base (bh P w) 5 f fd ["self"] (kq C CF):=by
 refine F.okN yB (fun vs H Q E h=>?_) (fun cdv A outer s H vs Q E hr h=>?_)
 ·obtain ⟨s,p,ts,rfl,_⟩:=h
  rfl
 ·obtain ⟨s0,p,ts,rfl,S,h64,wr,q⟩:=h
  have hr4:Room 4 _:=hr.mono (by decide)
  have hr1:Room 1 _:=hr.mono (by decide)
  obtain ⟨dx,fl,dxf,Dd,zs,h1,h2,h3,h4⟩:=S.ex
  refine ⟨_,(aq (az (aQ rp (by rfl) m_str (by rfl) (@aj _ _ _ _ _ (av FSTs hr4 (by rfl) mSTs kSTs bSTs .nil ae (@aj _ _ _ _ _ (uo FPN hr1 (by rfl) mPN kPN bPN .nil ae) (@aj _ _ _ _ _ (ck (pv 0) rfl) af rfl) rfl)) af rfl)))),?_⟩
  refine ⟨rfl,fun l hl=>?_⟩
  have s1:=ak (o:=.lst (((dC 0 60).map nm).map V.str)) hl
  have e1:upd H l (.lst (((dC 0 60).map nm).map V.str)) l=some (.lst (((dC 0 60).map nm).map V.str)):=ag
  generalize upd H l _=H1 at s1 e1 ⊢
  refine ⟨_,rfl,s0,C,dx,_,_,rfl,s1 _ _ h1,c.cl,c.nT,rfl,l,Dd,zs,ts,rfl,e1,s1 _ _ h3,aZ.keep h4 (aB.of s1),h64,wr,fun H2 s2=>?_⟩
  exact ⟨_,rfl,q _ (s1.trans s2)⟩
theorem v7 {f fs fp C CF:Addr}{fd fds fdp:FuncData}(F:Fun K "__repr__" "Sum.__repr__" uK f fd)(c:SumK K mg C)(cF:FieldK K mg CF)(m_str:mg "str"=none)
 (FS:FnOk P w K mg base (bh P w) 5 fs fds ["self"] (kq C CF))(bS:L2.ay K fds ["self"] [])(nS:findIn K (.ref C) "__str__"=some (some (.ref fs)))(iS:isFn K (.ref fs)=true)
 (FP:FnOk P w K mg base (bh P w) 1 fp fdp ["self"] (qL CF))(bP:L2.ay K fdp ["self"] [])(mP:L2.Meth K CF "prime" fp):FnOk P w K mg base (bh P w) 8 f fd ["self"] (qO C CF):=by
 refine F.okN xi (fun vs H Q E h=>?_) (fun cdv A outer s H vs Q E hr h=>?_)
 ·obtain ⟨s,p,ts,rfl,_⟩:=h
  rfl
 ·obtain ⟨s0,p,ts,rfl,hp,S,h64,wr,q⟩:=h
  have hr7:Room 7 _:=hr
  have hr1:Room 1 _:=hr.mono (by decide)
  obtain ⟨dx,fl,dxf,Dd,zs,h1,h2,h3,h4⟩:=S.ex
  obtain ⟨p0,p97⟩:=K05.FP.le hp
  have l0:Str.empty.length=0:=by decide +kernel
  have l1:(Str.ofString "Sum(").length=4:=by decide +kernel
  have l2:(Str.ofString (toString p)).length≤100:=by
   obtain ⟨n,rfl⟩:∃ n:Nat,p=(n:Int):=⟨p.toNat,by omega⟩
   rw [fV]
   exact ki (by decide) (Nat.lt_of_le_of_lt (show n≤97 by omega) (by decide))
  have l3:(Str.ofString ", '").length=3:=by decide +kernel
  have l4:=kE h64 wr
  have l5:(Str.ofString "')").length=2:=by decide +kernel
  refine ⟨_,(aq (az (ko (cB aU (cB (qk (vO (ck (pv 0) rfl) cF.cl mP FP hr1 bP .nil ae)) (cB aU (cB (lJ (aQ (dR nS iS FS hr7 bS ae) (by rfl) m_str (by rfl) (@aj _ _ _ _ _ (pv 0) af rfl))) (cB aU oP)))))))),?_⟩
  refine ⟨_,rfl,iP (by rw [Str.length_append]; omega),_,rfl,s0,C,dx,_,_,rfl,h1,c.cl,c.nF,rfl,?_⟩
  refine ⟨fl,dxf,_,rfl,h2,rfl,fl,dxf,p,rfl,h2,p,rfl,?_,_,rfl,iP (by rw [Str.length_append,Str.length_append]; omega),?_⟩
  ·have:p.natAbs < 2 ^ 60:=Nat.lt_of_le_of_lt (show p.natAbs≤97 by omega) (by decide)
   exact Nat.lt_of_lt_of_le (ie (by decide) this) (by decide)
  refine ⟨_,rfl,iP (by rw [Str.length_append,Str.length_append,Str.length_append]; omega),?_⟩
  refine ⟨_,rfl,s0,dx,_,rfl,h1,s0,p,ts,rfl,S,h64,wr,fun H2 s2=>?_⟩
  refine ⟨_,rfl,_,rfl,iP (by omega),_,rfl,iP (by rw [Str.length_append,Str.length_append,Str.length_append,Str.length_append]; omega),?_⟩
  refine ⟨_,rfl,iP (by rw [Str.length_append,Str.length_append,Str.length_append,Str.length_append,Str.length_append]; omega),iP (by rw [Str.length_append,Str.length_append,Str.length_append,Str.length_append,Str.length_append]; omega),?_⟩
  have e:Str.empty++Str.ofString "Sum("++Str.ofString (toString p)++Str.ofString ", '"++sC ts++Str.ofString "')"=rT p ts:=by unfold rT; rw [iD]
  rw [e]
  exact q _ s2
end K05
namespace St
open PySem
abbrev T:=SetTable
def Up (xs:Array Nat):Prop:=∀ i j,i < j->j < xs.size->xs.getD i 0 < xs.getD j 0
def AQ (xs:Array Nat)(j r:Nat):Prop:=r≤xs.size∧(∀ k,k < r->xs.getD k 0 < j)∧∀ k,r≤k->k < xs.size->j≤xs.getD k 0
theorem vD {xs:Array Nat}{k d e:Nat}(h:k < xs.size):xs.getD k d=xs.getD k e:=by
 simp [Array.getD,h]
theorem zg {xs:Array Nat}{j:Nat}(u:Up xs):∀ (f lo hi:Nat),lo≤hi->hi≤xs.size->hi - lo≤f->(∀ k,k < lo->xs.getD k 0 < j)->(∀ k,hi≤k->k < xs.size->j≤xs.getD k 0) →
 AQ xs j (SetTable.below.go xs j f lo hi):=by
 intro f
 induction f with
 | zero =>
   intro lo hi h1 h2 h3 h4 h5
   have e:lo=hi:=by omega
   subst e
   exact ⟨h2,h4,h5⟩
 | succ f ih =>
   intro lo hi h1 h2 h3 h4 h5
   unfold SetTable.below.go
   by_cases h:lo < hi
   ·rw [if_pos h]
    have hm:(lo + hi) / 2 < xs.size:=by omega
    have e:xs.getD ((lo + hi) / 2) j=xs.getD ((lo + hi) / 2) 0:=vD hm
    dsimp only
    rw [e]
    by_cases g:xs.getD ((lo + hi) / 2) 0 < j
    ·rw [if_pos g]
     refine ih _ _ (by omega) h2 (by omega) (fun k hk=>?_) h5
     rcases Nat.lt_or_ge k ((lo + hi) / 2) with q | q
     ·exact Nat.lt_trans (u _ _ q hm) g
     ·have:k=(lo + hi) / 2:=by omega
      rw [this]; exact g
    ·rw [if_neg g]
     refine ih _ _ (by omega) (by omega) (by omega) h4 (fun k hk hk2=>?_)
     rcases Nat.lt_or_ge ((lo + hi) / 2) k with q | q
     ·exact Nat.le_trans (Nat.not_lt.mp g) (Nat.le_of_lt (u _ _ q hk2))
     ·have:k=(lo + hi) / 2:=by omega
      rw [this]; exact Nat.not_lt.mp g
   ·rw [if_neg h]
    have e:lo=hi:=by omega
    subst e
    exact ⟨h2,h4,h5⟩
theorem du {xs:Array Nat}(u:Up xs)(j:Nat):AQ xs j (SetTable.below xs j):=
 zg u _ _ _ (Nat.zero_le _) (Nat.le_refl _) (by omega) (fun k hk=>absurd hk (Nat.not_lt_zero _)) (fun k h1 h2=>absurd h1 (by omega))
theorem pO {xs:Array Nat}{j r q:Nat}(a:AQ xs j r)(b:AQ xs j q):r=q:=by
 rcases Nat.lt_trichotomy r q with h | h | h
 ·have h1:=b.2.1 r h
  have h2:=a.2.2 r (Nat.le_refl _) (Nat.lt_of_lt_of_le h b.1)
  omega
 ·exact h
 ·have h1:=a.2.1 q h
  have h2:=b.2.2 q (Nat.le_refl _) (Nat.lt_of_lt_of_le h a.1)
  omega
theorem oW {xs:Array Nat}(u:Up xs):SetTable.below xs 0=0 :=
 pO (du u 0) ⟨Nat.zero_le _,fun k hk=>absurd hk (Nat.not_lt_zero _),fun _ _ _=>Nat.zero_le _⟩
theorem pR {xs:Array Nat}(u:Up xs){i:Nat}(h:i < xs.size):SetTable.below xs (xs.getD i 0 + 1)=i + 1:=by
 refine pO (du u _) ⟨h,fun k hk=>?_,fun k h1 h2=>?_⟩
 ·rcases Nat.lt_or_ge k i with q | q
  ·exact Nat.lt_succ_of_lt (u _ _ q h)
  ·have:k=i:=by omega
   rw [this]; exact Nat.lt_succ_self _
 ·exact u _ _ (by omega) h2
theorem oO {xs:Array Nat}{i:Nat}(h:i < xs.size):xs[i]?=some (xs.getD i 0):=by
 simp [Array.getD,h]
def tO (xs:Array Nat)(j:Nat):Prop:=∃ k,k < xs.size∧xs.getD k 0=j
theorem jQ {t:T}(u:Up t.place){j:Nat}(h:tO t.place j):∃ i,t.slot j = .live i:=by
 obtain ⟨k,hk,rfl⟩:=h
 have hb:SetTable.below t.place (t.place.getD k 0)=k:=by
  refine pO (du u _) ⟨Nat.le_of_lt hk,fun q hq=>u _ _ hq hk,fun q h1 h2=>?_⟩
  rcases Nat.lt_or_ge k q with g | g
  ·exact Nat.le_of_lt (u _ _ g h2)
  ·have:q=k:=by omega
   rw [this]; exact Nat.le_refl _
 refine ⟨k,?_⟩
 unfold SetTable.slot
 dsimp only
 rw [hb,oO hk]
 simp
theorem gw {t:T}(u:Up t.place)(d:t.dummies = #[]){j:Nat}(h:¬ tO t.place j):t.slot j = .empty:=by
 unfold SetTable.slot
 dsimp only
 have e:(t.place[SetTable.below t.place j]? == some j)=false:=by
  rcases Nat.lt_or_ge (SetTable.below t.place j) t.place.size with g | g
  ·rw [oO g]
   have:t.place.getD (SetTable.below t.place j) 0≠j:=fun q=>h ⟨_,g,q⟩
   simpa using this
  ·rw [Array.getElem?_eq_none g]; rfl
 have e2:SetTable.has t.dummies j=false:=by rw [d]; simp [SetTable.has]
 rw [e,e2]
 rfl
theorem c5 {α:Type}(xs:Array α)(p:Nat)(x:α)(h:p≤xs.size):(SetTable.insertAt xs p x).size=xs.size + 1:=by
 rw [← Array.length_toList,SetTable.toList_insertAt]
 simp
 omega
theorem eI {xs:Array Nat}{p x k:Nat}(h:p≤xs.size):(SetTable.insertAt xs p x).getD k 0=if k < p then xs.getD k 0 else if k=p then x else xs.getD (k - 1) 0:=by
 have e:∀ (ys:Array Nat)(k:Nat),ys.getD k 0=(ys.toList[k]?).getD 0:=by
  intro ys k
  rw [Array.getElem?_toList,Array.getD_eq_getD_getElem?]
 rw [e,e,e,SetTable.toList_insertAt]
 have hl:(xs.toList.take p).length=p:=by simp [h]
 by_cases g:k < p
 ·rw [if_pos g,List.getElem?_append_left (by omega),List.getElem?_take_of_lt g]
 ·rw [if_neg g,List.getElem?_append_right (by omega),hl]
  by_cases g2:k=p
  ·subst g2; simp
  ·rw [if_neg g2]
   obtain ⟨q,hq⟩:∃ q,k=p + (q + 1):=⟨k - p - 1,by omega⟩
   subst hq
   rw [show p + (q + 1) - p=q + 1 from by omega,List.getElem?_cons_succ,List.getElem?_drop,show p + (q + 1) - 1=p + q from by omega]
theorem tD {xs:Array Nat}(u:Up xs){j:Nat}(h:¬ tO xs j):Up (SetTable.insertAt xs (SetTable.below xs j) j):=by
 obtain ⟨c1,c2,c3⟩:=du u j
 generalize SetTable.below xs j=p at c1 c2 c3
 intro a b hab hb
 rw [c5 _ _ _ c1] at hb
 rw [eI c1,eI c1]
 have gt:∀ k,p≤k->k < xs.size->j < xs.getD k 0:=fun k h1 h2=>Nat.lt_of_le_of_ne (c3 k h1 h2) fun e=>h ⟨k,h2,e.symm⟩
 by_cases ha:a < p
 ·rw [if_pos ha]
  by_cases hb1:b < p
  ·rw [if_pos hb1]; exact u _ _ hab (by omega)
  ·rw [if_neg hb1]
   by_cases hb2:b=p
   ·rw [if_pos hb2]; exact c2 _ ha
   ·rw [if_neg hb2]; exact Nat.lt_trans (c2 _ ha) (gt _ (by omega) (by omega))
 ·rw [if_neg ha]
  by_cases ha2:a=p
  ·rw [if_pos ha2,if_neg (by omega),if_neg (by omega)]; exact gt _ (by omega) (by omega)
  ·rw [if_neg ha2,if_neg (by omega),if_neg (by omega)]; exact u _ _ (by omega) (by omega)
def it (m:Nat):Nat->Nat->Nat
 | 0,x=>x
 | n + 1,x=>it m n ((x * 5 + 1) % m)
theorem pD (m a:Nat):∀ b x,it m (b + a) x=it m a (it m b x):=by
 intro b
 induction b with
 | zero=>intro x; rw [Nat.zero_add]; rfl
 | succ b ih=>intro x; rw [Nat.succ_add]; exact ih _
def round (m:Nat):Bool:=it m m 0 == 0&&(List.range m).all fun y=>(List.range m).any fun n=>it m n 0 == y
theorem AL {m:Nat}(h:round m=true){x y:Nat}(hx:x < m)(hy:y < m):∃ n,n < m∧it m n x=y:=by
 obtain ⟨h1,h2⟩:=Bool.and_eq_true_iff.mp h
 have h0:it m m 0=0:=by simpa using h1
 have on:∀ y,y < m->∃ n,n < m∧it m n 0=y:=fun y hy=>by
  have h3:=List.all_eq_true.mp h2 y (List.mem_range.mpr hy)
  obtain ⟨n,hn,e⟩:=List.any_eq_true.mp h3
  exact ⟨n,List.mem_range.mp hn,by simpa using e⟩
 obtain ⟨a,ha,rfl⟩:=on x hx
 obtain ⟨b,hb,rfl⟩:=on y hy
 rcases Nat.lt_or_ge b a with g | g
 ·refine ⟨(m - a) + b,by omega,?_⟩
  have e:it m (m - a) (it m a 0)=0:=by rw [← pD,show a + (m - a)=m from by omega,h0]
  rw [pD,e]
 ·exact ⟨b - a,by omega,by rw [← pD,show a + (b - a)=b from by omega]⟩
theorem yJ:round 8=true:=by decide +kernel
theorem wW:round 32=true:=by decide +kernel
theorem vL:round 128=true:=by decide +kernel
def iM (k:Nat):Prop:=k=7∨k=31∨k=127
theorem iM.round {k:Nat}(h:iM k):St.round (k + 1)=true:=by
 rcases h with rfl | rfl | rfl
 ·exact yJ
 ·exact wW
 ·exact vL
def lp (mask:Nat):Nat->Nat->Nat->Nat × Nat
 | 0,i,p=>(i,p)
 | n + 1,i,p=>lp mask n (SetTable.leap mask i p).1 (SetTable.leap mask i p).2
theorem zd (mask a:Nat):∀ b i p,lp mask (b + a) i p=lp mask a (lp mask b i p).1 (lp mask b i p).2:=by
 intro b
 induction b with
 | zero=>intro i p; rw [Nat.zero_add]; rfl
 | succ b ih=>intro i p; rw [Nat.succ_add]; exact ih _ _
theorem BC (mask:Nat):∀ n i p,(lp mask n i p).2=p / 32 ^ n:=by
 intro n
 induction n with
 | zero=>intro i p; show p=_; rw [Nat.pow_zero,Nat.div_one]
 | succ n ih =>
   intro i p
   show (lp mask n _ _).2=_
   rw [ih]
   show p / 32 / 32 ^ n=_
   rw [Nat.div_div_eq_div_mul,Nat.pow_succ,Nat.mul_comm]
theorem AI (mask:Nat):∀ n i p,i < mask + 1->(lp mask n i p).1 < mask + 1:=by
 intro n
 induction n with
 | zero=>intro i p h; exact h
 | succ n ih=>intro i p h; exact ih _ _ (Nat.mod_lt _ (Nat.succ_pos _))
theorem zJ (mask:Nat):∀ n i,(lp mask n i 0).1=it (mask + 1) n i:=by
 intro n
 induction n with
 | zero=>intro i; rfl
 | succ n ih=>intro i; exact ih _
theorem xQ {mask:Nat}(hm:iM mask){i p y:Nat}(hi:i < mask + 1)(hp:p < 2 ^ 64)(hy:y < mask + 1):∃ n,n < mask + 15∧(lp mask n i p).1=y:=by
 have e:(lp mask 13 i p).2=0:=by
  rw [BC]; exact Nat.div_eq_of_lt (Nat.lt_trans hp (by decide))
 obtain ⟨n,hn,h⟩:=AL hm.round (AI mask 13 i p hi) hy
 refine ⟨13 + n,by omega,?_⟩
 rw [zd,e,zJ,h]
theorem qw (h:Int):SetTable.bits h < 2 ^ 64:=by
 unfold SetTable.bits
 have h1:0≤h % (2 ^ 64:Int):=Int.emod_nonneg _ (by decide)
 have h2:h % (2 ^ 64:Int) < 2 ^ 64:=Int.emod_lt_of_pos _ (by decide)
 omega
theorem vU {mask i:Nat}(h:i < mask + 1):SetTable.runEnd mask i < mask + 1∧i≤SetTable.runEnd mask i∧SetTable.runEnd mask i≤i + 9:=by
 unfold SetTable.runEnd
 split <;> omega
theorem wG {mask:Nat}{owner:Array (Option Nat)}:∀ (n f i p y:Nat),i < mask + 1->n < f->(lp mask n i p).1=y->owner.getD y (some 0)=none →
 ∃ j,SetTable.layClean.free mask owner f i p=some j∧owner.getD j (some 0)=none:=by
 intro n
 induction n with
 | zero =>
   intro f i p y hi hf hy ho
   obtain ⟨f,rfl⟩:∃ g,f=g + 1:=⟨f - 1,by omega⟩
   cases (show i=y from hy)
   unfold SetTable.layClean.free
   cases e:(List.range (SetTable.runEnd mask i + 1 - i)).find? fun k=>(owner.getD (i + k) (some 0)).isNone with
   | some k =>
     have:=List.find?_some e
     exact ⟨i + k,rfl,by simpa using this⟩
   | none =>
     have h0:=List.find?_eq_none.mp e 0 (List.mem_range.mpr (by have:=vU hi; omega))
     rw [Nat.add_zero,ho] at h0
     exact absurd rfl h0
 | succ n ih =>
   intro f i p y hi hf hy ho
   obtain ⟨f,rfl⟩:∃ g,f=g + 1:=⟨f - 1,by omega⟩
   unfold SetTable.layClean.free
   cases e:(List.range (SetTable.runEnd mask i + 1 - i)).find? fun k=>(owner.getD (i + k) (some 0)).isNone with
   | some k =>
     have:=List.find?_some e
     exact ⟨i + k,rfl,by simpa using this⟩
   | none=>exact ih f _ _ y (Nat.mod_lt _ (Nat.succ_pos _)) (by omega) hy ho
theorem tG {t:T}{h:Int}(u:Up t.place)(d:t.dummies = #[]){F:Nat}:∀ (k f:Nat)(p:SetTable.Probe),p.more=k->p.dummy=none->k + 1 + F=f →
 (∀ q:SetTable.Probe,q.j=q.i->q.more=SetTable.runEnd t.mask q.i - q.i->q.dummy=none->(q.i,q.perturb)=SetTable.leap t.mask p.i p.perturb->∃ j,SetTable.probe.go t (fun _=>h + 1) h F q=some (.empty j none)∧¬ tO t.place j) →
 ∃ j,SetTable.probe.go t (fun _=>h + 1) h f p=some (.empty j none)∧¬ tO t.place j:=by
 intro k
 induction k with
 | zero =>
   intro f p hk hd hf hn
   obtain ⟨f,rfl⟩:∃ g,f=g + 1:=⟨f - 1,by omega⟩
   have hF:F=f:=by omega
   subst hF
   unfold SetTable.probe.go
   by_cases g:tO t.place p.j
   ·obtain ⟨i,e⟩:=jQ u g
    rw [e]
    dsimp only
    rw [if_neg (by simp; omega)]
    refine hn _ ?_ ?_ ?_ ?_ <;> unfold SetTable.advance <;> rw [if_neg (by omega)]
    ·exact hd
   ·rw [gw u d g]
    exact ⟨_,by rw [hd],g⟩
 | succ k ih =>
   intro f p hk hd hf hn
   obtain ⟨f,rfl⟩:∃ g,f=g + 1:=⟨f - 1,by omega⟩
   unfold SetTable.probe.go
   by_cases g:tO t.place p.j
   ·obtain ⟨i,e⟩:=jQ u g
    rw [e]
    dsimp only
    rw [if_neg (by simp; omega)]
    have ea:t.advance p={ p with j:=p.j + 1,more:=p.more - 1 }:=by unfold SetTable.advance; rw [if_pos (by omega)]
    rw [ea]
    exact ih f _ (by show p.more - 1=k; omega) hd (by omega) hn
   ·rw [gw u d g]
    exact ⟨_,by rw [hd],g⟩
theorem tR {t:T}{h:Int}(u:Up t.place)(d:t.dummies = #[]):∀ (n f:Nat)(p:SetTable.Probe)(y:Nat),p.i < t.mask + 1->p.j=p.i->p.more=SetTable.runEnd t.mask p.i - p.i->p.dummy=none →
 10 * n < f->(lp t.mask n p.i p.perturb).1=y->¬ tO t.place y->∃ j,SetTable.probe.go t (fun _=>h + 1) h f p=some (.empty j none)∧¬ tO t.place j:=by
 intro n
 induction n with
 | zero =>
   intro f p y hi hj hm hd hf hy hn
   obtain ⟨f,rfl⟩:∃ g,f=g + 1:=⟨f - 1,by omega⟩
   have e:p.j=y:=hj.trans hy
   unfold SetTable.probe.go
   rw [e,gw u d hn]
   exact ⟨_,by rw [hd],hn⟩
 | succ n ih =>
   intro f p y hi hj hm hd hf hy hn
   have hr:=vU hi
   refine tG u d (F:=f - (p.more + 1)) p.more f p rfl hd (by omega) fun q q1 q2 q3 q4=>?_
   have e1:q.i=(SetTable.leap t.mask p.i p.perturb).1:=congrArg Prod.fst q4
   have e2:q.perturb=(SetTable.leap t.mask p.i p.perturb).2:=congrArg Prod.snd q4
   refine ih _ q y (by rw [e1]; exact Nat.mod_lt _ (Nat.succ_pos _)) q1 q2 q3 (by omega) ?_ hn
   rw [e1,e2]; exact hy
theorem yb {xs:Array Nat}(u:Up xs):∀ m,(∀ y,y < m + 1->tO xs y)->∃ k,k < xs.size∧xs.getD k 0=m∧m≤k:=by
 intro m
 induction m with
 | zero=>intro h; obtain ⟨k,hk,e⟩:=h 0 (by omega); exact ⟨k,hk,e,Nat.zero_le _⟩
 | succ m ih =>
   intro h
   obtain ⟨k,hk,e,hl⟩:=ih fun y hy=>h y (by omega)
   obtain ⟨q,hq,e2⟩:=h (m + 1) (by omega)
   refine ⟨q,hq,e2,?_⟩
   rcases Nat.lt_trichotomy k q with g | g | g
   ·omega
   ·subst g; omega
   ·have:=u _ _ g hk; omega
theorem spare {xs:Array Nat}(u:Up xs){m:Nat}(h:xs.size < m + 1):∃ y,y < m + 1∧¬ tO xs y:=by
 refine Classical.byContradiction fun n=>?_
 obtain ⟨k,hk,_,hl⟩:=yb u m fun y hy=>Classical.byContradiction fun g=>n ⟨y,hy,g⟩
 omega
theorem sx {t:T}(hm:iM t.mask)(u:Up t.place)(d:t.dummies = #[])(hs:t.place.size < t.mask + 1)(h:Int):∃ j,t.freeSlot h=some (j,false)∧¬ tO t.place j:=by
 obtain ⟨y,hy,hn⟩:=spare u hs
 have hi:SetTable.bits h % (t.mask + 1) < t.mask + 1:=Nat.mod_lt _ (Nat.succ_pos _)
 obtain ⟨n,hl,e⟩:=xQ hm hi (qw h) hy
 obtain ⟨j,e2,hj⟩:=tR (h:=h) u d n (10 * SetTable.turns t.mask) (t.probeStart h) y hi rfl rfl rfl (by unfold SetTable.turns; omega) e hn
 refine ⟨j,?_,hj⟩
 unfold SetTable.freeSlot SetTable.probe
 rw [e2]
 rfl
def xE (owner:Array (Option Nat))(m:Nat):List Nat:=(List.range m).filterMap fun j=>owner.getD j none
structure Laid (owner:Array (Option Nat))(m k:Nat):Prop where
 size:owner.size=m
 all:(xE owner m).Perm (List.range k)
theorem sW {owner:Array (Option Nat)}{j:Nat}(h:owner.getD j (some 0)=none):j < owner.size∧owner.getD j none=none:=by
 rcases Nat.lt_or_ge j owner.size with g | g
 ·refine ⟨g,?_⟩
  rw [← h]; simp [Array.getD,g]
 ·simp [Array.getD,Nat.not_lt.mpr g] at h
theorem nk {α β:Type}{f:α->Option β}:∀ {l:List α},(∀ x,x∈l->f x≠none)->(l.filterMap f).length=l.length
 | [],_=>rfl
 | x :: l,h=>by
   obtain ⟨y,e⟩:=Option.ne_none_iff_exists'.mp (h x List.mem_cons_self)
   rw [List.filterMap_cons_some e,List.length_cons,List.length_cons,nk fun z hz=>h z (List.mem_cons_of_mem _ hz)]
theorem Laid.spare {owner:Array (Option Nat)}{m k:Nat}(L:Laid owner m k)(h:k < m):∃ y,y < m∧owner.getD y (some 0)=none:=by
 refine Classical.byContradiction fun n=>?_
 have e:(xE owner m).length=m:=by
  unfold xE
  rw [nk,List.length_range]
  intro y hy e
  have hy':=List.mem_range.mp hy
  refine n ⟨y,hy',?_⟩
  rw [← e]; simp [Array.getD,L.size,hy']
 rw [L.all.length_eq,List.length_range] at e
 omega
theorem i8 {α β:Type}{f g:α->Option β}:∀ {l:List α},(∀ x,x∈l->f x=g x)->l.filterMap f=l.filterMap g
 | [],_=>rfl
 | x :: l,h=>by
   rw [List.filterMap_cons,List.filterMap_cons,h x List.mem_cons_self,i8 fun z hz=>h z (List.mem_cons_of_mem _ hz)]
theorem xA {owner:Array (Option Nat)}{m j k:Nat}(hs:owner.size=m)(hj:j < m)(ho:owner.getD j none=none):(xE (owner.setIfInBounds j (some k)) m).Perm (k :: xE owner m):=by
 obtain ⟨a,b,e⟩:=List.append_of_mem (List.mem_range.mpr hj)
 have nd:(a++j :: b).Nodup:=e ▸ List.nodup_range
 have na:∀ x,x∈a->x≠j:=fun x hx q=>by
  rw [List.nodup_append] at nd
  exact nd.2.2 x hx j List.mem_cons_self q
 have nb:∀ x,x∈b->x≠j:=fun x hx q=>by
  rw [List.nodup_append] at nd
  exact (List.nodup_cons.mp nd.2.1).1 (q ▸ hx)
 have ne:∀ x,x≠j->(owner.setIfInBounds j (some k)).getD x none=owner.getD x none:=fun x hx=>by
  rw [Array.getD_eq_getD_getElem?,Array.getD_eq_getD_getElem?,Array.getElem?_setIfInBounds_ne (Ne.symm hx)]
 have ej:(owner.setIfInBounds j (some k)).getD j none=some k:=by
  rw [Array.getD_eq_getD_getElem?,Array.getElem?_setIfInBounds_self_of_lt (by omega)]; rfl
 unfold xE
 rw [e,List.filterMap_append,List.filterMap_append,List.filterMap_cons,List.filterMap_cons,ej,ho]
 dsimp only
 rw [i8 fun x hx=>ne x (na x hx),i8 fun x hx=>ne x (nb x hx)]
 exact List.perm_middle
theorem rR {mask:Nat}(hm:iM mask):∀ (hs:List Int)(owner:Array (Option Nat))(k:Nat),Laid owner (mask + 1) k->k + hs.length < mask + 1 →
 ∃ owner',hs.foldl (fun acc h=>do
   let (owner,k) ← acc
   let j ← SetTable.layClean.free mask owner (SetTable.turns mask) (SetTable.bits h % (mask + 1)) (SetTable.bits h)
   pure (owner.setIfInBounds j (some k),k + 1)) (some (owner,k))=some (owner',k + hs.length)∧Laid owner' (mask + 1) (k + hs.length):=by
 intro hs
 induction hs with
 | nil=>intro owner k L _; exact ⟨owner,rfl,L⟩
 | cons h hs ih =>
   intro owner k L hl
   rw [List.length_cons] at hl
   obtain ⟨y,hy,ho⟩:=L.spare (by omega)
   have hi:SetTable.bits h % (mask + 1) < mask + 1:=Nat.mod_lt _ (Nat.succ_pos _)
   obtain ⟨n,hn,e⟩:=xQ hm hi (qw h) hy
   obtain ⟨j,ej,hj⟩:=wG n (SetTable.turns mask) _ _ y hi (by unfold SetTable.turns; omega) e ho
   obtain ⟨j1,j2⟩:=sW hj
   have L':Laid (owner.setIfInBounds j (some k)) (mask + 1) (k + 1):=by
    refine ⟨by rw [Array.size_setIfInBounds]; exact L.size,(xA L.size (by rw [← L.size]; exact j1) j2).trans ?_⟩
    rw [List.range_succ]
    exact (List.Perm.cons k L.all).trans (List.perm_append_singleton k _).symm
   obtain ⟨o',e',l'⟩:=ih _ _ L' (by omega)
   refine ⟨o',?_,by rw [List.length_cons,show k + (hs.length + 1)=k + 1 + hs.length from by omega]; exact l'⟩
   rw [List.foldl_cons,List.length_cons,show k + (hs.length + 1)=k + 1 + hs.length from by omega]
   show List.foldl _ ((SetTable.layClean.free mask owner (SetTable.turns mask) (SetTable.bits h % (mask + 1)) (SetTable.bits h)).bind _) hs=_
   rw [ej]
   exact e'
theorem vN (m:Nat):xE (Array.replicate m none) m=[]:=by
 unfold xE
 rw [List.filterMap_eq_nil_iff]
 intro j hj
 have hj':=List.mem_range.mp hj
 simp [Array.getD,hj']
theorem pC {mask:Nat}(hm:iM mask)(hs:Array Int)(h:hs.size < mask + 1):∃ owner,SetTable.layClean mask hs=some owner∧Laid owner (mask + 1) hs.size:=by
 obtain ⟨o,e,l⟩:=rR hm hs.toList (Array.replicate (mask + 1) none) 0 ⟨Array.size_replicate,by rw [vN]; exact List.Perm.refl _⟩ (by rw [Array.length_toList]; omega)
 rw [Array.length_toList,Nat.zero_add] at e l
 refine ⟨o,?_,l⟩
 unfold SetTable.layClean
 rw [← Array.foldl_toList]
 rw [e]
 rfl
theorem zA {l:List Nat}(h:l.Pairwise (· < ·)):Up l.toArray:=by
 intro i j hij hj
 rw [List.size_toArray] at hj
 have:=List.pairwise_iff_getElem.mp h i j (by omega) hj hij
 rw [show l.toArray.getD i 0=l[i] from by simp [Array.getD,show i < l.length from by omega],show l.toArray.getD j 0=l[j] from by simp [Array.getD,hj]]
 exact this
theorem lR {t:T}{hs:Array Int}{wanted mask:Nat}(em:SetTable.sizeAbove wanted - 1=mask)(hm:iM mask)(h:hs.size < mask + 1):
 ∃ t' order,t.relaid hs wanted=some (t',order)∧t'.mask=mask∧t'.dummies = #[]∧t'.led=t.led∧t'.plain=t.plain∧Up t'.place∧t'.place.size=hs.size∧order.toList.Perm (List.range hs.size):=by
 obtain ⟨o,e,l⟩:=pC hm hs h
 unfold SetTable.relaid SetTable.laid
 rw [em,e]
 refine ⟨_,_,rfl,rfl,rfl,rfl,rfl,?_,?_,?_⟩
 ·dsimp only
  rw [List.map_filterMap]
  refine zA (List.Pairwise.filterMap _ (fun a a' haa b hb b' hb'=>?_) (List.pairwise_lt_range (n:=mask + 1)))
  cases ea:o.getD a none with
  | none=>rw [ea] at hb; cases hb
  | some x =>
    cases ea':o.getD a' none with
    | none=>rw [ea'] at hb'; cases hb'
    | some x' =>
      rw [ea] at hb; rw [ea'] at hb'
      cases hb; cases hb'
      exact haa
 ·have e1:=l.all.length_eq
  rw [List.length_range] at e1
  dsimp only
  rw [List.size_toArray,List.length_map,← e1]
  unfold xE
  rw [show (fun j=>o.getD j none)=(fun j=>((o.getD j none).map (j,·)).map Prod.snd) from funext fun j=>by cases o.getD j none <;> rfl,← List.map_filterMap,List.length_map]
 ·dsimp only
  rw [List.map_filterMap]
  have e2:(fun x=>Option.map (fun x=>x.snd) (Option.map (fun x_1=>(x,x_1)) (o.getD x none)))=fun j=>o.getD j none:=funext fun j=>by cases o.getD j none <;> rfl
  rw [e2]
  exact l.all
structure Ok (led:Bool)(n:Nat)(t:T):Prop where
 mask:iM t.mask
 room:n * 5 < t.mask * 3
 size:t.place.size=n
 up:Up t.place
 dum:t.dummies = #[]
 plain:t.plain=true
 led:t.led=led
theorem Ok.fits {led:Bool}{n:Nat}{t:T}(o:Ok led n t):t.fits n=true:=by
 have h1:=o.room
 have h2:=o.size
 simp only [SetTable.fits,SetTable.fill,Bool.and_eq_true,beq_iff_eq,decide_eq_true_eq,o.dum]
 refine ⟨h2,?_⟩
 rw [h2,Array.size_empty]
 omega
theorem Ok.fresh (led:Bool):Ok led 0 (.fresh 0 0 led):=
 ⟨.inl rfl,by show 0 * 5 < 7 * 3; decide,rfl,fun i j _ h=>absurd h (Nat.not_lt_zero _),rfl,rfl,rfl⟩
theorem wq {led:Bool}{n:Nat}{t:T}(o:Ok led n t){es:Array (Int × Value)}(he:es.size=n)(h:Int)(x:Value):∃ es' t',layNew t es h x=(es',t',false,false)∧es'.size=n + 1 ∧
 iM t'.mask∧t'.mask=t.mask∧t'.place.size=n + 1∧Up t'.place∧t'.dummies = #[]∧t'.plain=true∧t'.led=led∧t'.fits (n + 1)=true:=by
 have hr:=o.room
 have hs:=o.size
 obtain ⟨j,ej,hj⟩:=sx o.mask o.up o.dum (by rw [hs]; omega) h
 have c:=du o.up j
 have e1:(SetTable.insertAt t.place (SetTable.below t.place j) j).size=n + 1:=by rw [c5 _ _ _ c.1,hs]
 have e2:(SetTable.insertAt es (SetTable.below t.place j) (h,x)).size=n + 1:=by rw [c5 _ _ _ (by have:=c.1; omega),he]
 have e3:SetTable.has t.dummies j=false:=by rw [o.dum]; simp [SetTable.has]
 have ep:t.put j=({ t with place:=SetTable.insertAt t.place (SetTable.below t.place j) j },SetTable.below t.place j):=by
  unfold SetTable.put; dsimp only; rw [e3]; rfl
 have ef:SetTable.fits { t with place:=SetTable.insertAt t.place (SetTable.below t.place j) j } (n + 1)=true:=by
  simp only [SetTable.fits,SetTable.fill,Bool.and_eq_true,beq_iff_eq,decide_eq_true_eq,o.dum]
  refine ⟨e1,?_⟩
  rw [e1,Array.size_empty]
  omega
 refine ⟨SetTable.insertAt es (SetTable.below t.place j) (h,x),{ t with place:=SetTable.insertAt t.place (SetTable.below t.place j) j },?_,e2,o.mask,rfl,e1,tD o.up hj,o.dum,o.plain,o.led,ef⟩
 unfold layNew
 rw [ej]
 dsimp only
 rw [ep]
 dsimp only
 unfold SetTable.orStandIn
 rw [e2,ef]
 rfl
theorem wX:SetTable.sizeAbove (SetTable.grown 5) - 1=31:=by decide
theorem xu:SetTable.sizeAbove (SetTable.grown 19) - 1=127:=by decide
theorem rL {led:Bool}{n:Nat}{t:T}(hn:n < 76)(hm:iM t.mask)(hr:n * 5 < t.mask * 3)(hs:t.place.size=n + 1)(d:t.dummies = #[])(hp:t.plain=true)(hl:t.led=led)
 {es:Array (Int × Value)}(he:es.size=n + 1)(hf:t.tooFull=true):∃ es' t',relayAll t es (SetTable.grown es.size)=(es',t',false)∧es'.size=n + 1∧Ok led (n + 1) t':=by
 have full:(n + 1) * 5 ≥ t.mask * 3:=by
  have:=hf
  simp only [SetTable.tooFull,SetTable.fill,hs,d,Array.size_empty,decide_eq_true_eq] at this
  omega
 have two:(t.mask=7∧n + 1=5)∨(t.mask=31∧n + 1=19):=by
  rcases hm with e | e | e <;> omega
 obtain ⟨mask,em,hm',hlt,hroom⟩:∃ mask,SetTable.sizeAbove (SetTable.grown es.size) - 1=mask∧iM mask∧n + 1 < mask + 1∧(n + 1) * 5 < mask * 3:=by
  rw [he]
  rcases two with ⟨_,e⟩ | ⟨_,e⟩
  ·exact ⟨31,by rw [e]; exact wX,.inr (.inl rfl),by omega,by omega⟩
  ·exact ⟨127,by rw [e]; exact xu,.inr (.inr rfl),by omega,by omega⟩
 have e0:(es.map (·.1)).size=n + 1:=by rw [Array.size_map]; exact he
 obtain ⟨t',order,er,m1,m2,m3,m4,m5,m6,m7⟩:=lR (t:=t) (hs:=es.map (·.1)) em hm' (by rw [e0]; exact hlt)
 rw [e0] at m6 m7
 have es':(order.filterMap (es[·]?)).size=n + 1:=by
  have:=(m7.filterMap (fun i=>es[i]?)).length_eq
  rw [← he,filterMap_getElem?_range] at this
  rw [← Array.length_toList,Array.toList_filterMap]
  refine this.trans ?_
  rw [Array.length_toList,he]
 have O:Ok led (n + 1) t':=⟨by rw [m1]; exact hm',by rw [m1]; exact hroom,m6,m5,m2,m4.trans hp,m3.trans hl⟩
 refine ⟨order.filterMap (es[·]?),t',?_,es',O⟩
 unfold relayAll
 rw [er]
 dsimp only
 have c:coversAll order es.size=true:=by unfold coversAll; rw [he]; exact List.isPerm_iff.mpr m7
 rw [es',c,O.fits]
 rfl
open PyProof.Rows
def BG:Value->Int
 | .int n _=>n
 | _=>0
abbrev Ent:=Int × Value
def BD (e:Ent):Prop:=∃ n t,e=(hashInt n,.int n t)
structure Cont (es:Array Ent)(ns:List Int):Prop where
 isI:∀ e,e∈es.toList->BD e
 perm:(es.toList.map fun e=>BG e.2).Perm ns
abbrev gQ (es:Array Ent)(ep:Nat)(t:T):Obj:={ cls:=.type "set",dict:=none,data:=.set es ep t,slots:=#[] }
def gV (led:Bool)(h:Heap)(a:Addr)(ns:List Int):Prop:=∃ es ep t,h.get? a=some (gQ es ep t)∧Cont es ns∧es.size=ns.length∧Ok led ns.length t
theorem mr:∀ {vs:List Value},(∀ v,v∈vs->∃ n t,v = .int n t)->IntsAre vs (vs.map BG)
 | [],_=>.nil
 | v :: vs,h=>by
   obtain ⟨n,t,rfl⟩:=h v List.mem_cons_self
   exact .cons n t (mr fun u hu=>h u (List.mem_cons_of_mem _ hu))
section
variable {prog:Program}{w:World}{A:Around}{E:Value->Shared->Prop}{s:Shared}
theorem Cont.elems {es:Array Ent}{ns:List Int}(c:Cont es ns):ElemsOf (intKind prog w) es.toList:=by
 intro e he
 obtain ⟨n,t,rfl⟩:=c.isI e he
 exact ⟨⟨n,intKind_is _ _ _ _,rfl⟩,rfl⟩
theorem Cont.has {es:Array Ent}{ns:List Int}(c:Cont es ns)(k:Int):(∃ e,e∈es.toList∧(intKind prog w).is k e.2=true) ↔ k∈ns:=by
 rw [← c.perm.mem_iff,List.mem_map]
 constructor
 ·rintro ⟨e,he,hk⟩
  obtain ⟨n,t,rfl⟩:=c.isI e he
  refine ⟨_,he,?_⟩
  exact (intKind prog w).inj (.int n t) n k (intKind_is _ _ _ _) hk
 ·rintro ⟨e,he,hk⟩
  obtain ⟨n,t,rfl⟩:=c.isI e he
  cases (show n=k from hk)
  exact ⟨_,he,intKind_is _ _ _ _⟩
theorem Cont.push {es es':Array Ent}{ns:List Int}(c:Cont es ns){k:Int}{tk:Tok}(p:es'.toList.Perm (es.toList++[(hashInt k,.int k tk)])):Cont es' (ns++[k]):=by
 refine ⟨fun e he=>?_,?_⟩
 ·rcases List.mem_append.mp (p.mem_iff.mp he) with h | h
  ·exact c.isI e h
  ·rw [List.mem_singleton] at h; exact ⟨k,tk,h⟩
 ·refine (p.map _).trans ?_
  rw [List.map_append]
  exact c.perm.append (List.Perm.refl _)
theorem Cont.perm' {es es':Array Ent}{ns:List Int}(c:Cont es ns)(p:es'.toList.Perm es.toList):Cont es' ns :=
 ⟨fun e he=>c.isI e (p.mem_iff.mp he),(p.map _).trans c.perm⟩
theorem nJ {ns:List Int}{k:Int}(h:k∈ns):step_dedup ns k=ns:=by
 unfold step_dedup; rw [if_pos (List.any_eq_true.mpr ⟨k,h,by simp⟩)]
theorem gD {ns:List Int}{k:Int}(h:k ∉ ns):step_dedup ns k=ns++[k]:=by
 unfold step_dedup; rw [if_neg fun g=>?_]
 obtain ⟨x,hx,e⟩:=List.any_eq_true.mp g
 exact h ((by simpa using e:x=k) ▸ hx)
theorem qQ {h:Heap}{a:Addr}{es es':Array Ent}{ep:Nat}{t t':T}(ho:h.get? a=some (gQ es ep t)):(h.update a (Obj.putSet es' t')).get? a=some (gQ es' (ep + 1) t'):=
 Heap.get?_update_self (Obj.putSet es' t') ho rfl
theorem zO {led:Bool}{a:Addr}{ns:List Int}{k:Int}{tk:Tok}{Q:Bool->Shared->Prop}(S:gV led s.heap a ns)(hn:ns.length < 76)
 (hQ:∀ b h',Heap.SameBut a s.heap h'->gV led h' a (step_dedup ns k)->Q b { s with heap:=h' }):wpAny (model prog w) A (setAddHashed a (.int k tk) (hashInt k)) Q E s:=by
 obtain ⟨es,ep,t,ho,c,hz,O⟩:=S
 have hf:t.fits es.size=true:=by rw [hz]; exact O.fits
 have hel:ElemsOf (intKind prog w) es.toList:=c.elems
 have hb:es.size < scanBound:=by show _ < 4096; omega
 unfold setAddHashed setAddHashedIn
 refine wpAny_holding (wpAny_bind (wpAny_setState_of ho rfl hf ?_))
 dsimp only
 rw [byScan_of (knd:=intKind prog w) rfl hb hel,if_pos rfl]
 unfold setAddByScan
 refine wpAny_bind (wpAny_bind (wpAny_rule (wpAny_bind (wpAny_setScan_of (knd:=intKind prog w) (intKind_is _ _ k tk) ho rfl hf hel ?_))))
 cases hr:List.findIdx? (fun e=>(intKind prog w).is k e.2) es.toList with
 | some j =>
   obtain ⟨hj,hpj,_⟩:=List.findIdx?_eq_some_iff_getElem.mp hr
   have hk:k∈ns:=(c.has (prog:=prog) (w:=w) k).mp ⟨_,List.getElem_mem hj,hpj⟩
   refine wpAny_pure (wpAny_pure ?_)
   have:=hQ false s.heap (Heap.SameBut.refl a s.heap) (by rw [nJ hk]; exact ⟨es,ep,t,ho,c,hz,O⟩)
   cases s; exact this
 | none =>
   have hk:k ∉ ns:=fun h=>by
    obtain ⟨e,he,hp⟩:=(c.has (prog:=prog) (w:=w) k).mpr h
    have:=List.findIdx?_eq_none_iff.mp hr e he
    rw [hp] at this; cases this
   obtain ⟨es1,t1,eL,z1,m1,m2,p1,u1,d1,pl1,l1,f1⟩:=wq O hz (hashInt k) (.int k tk)
   have hp:=layNew_perm t es (hashInt k) (.int k tk)
   rw [eL,Array.toList_push] at hp
   have c1:Cont es1 (ns++[k]):=c.push hp
   dsimp only
   rw [eL]
   dsimp only
   refine wpAny_bind (wpAny_pure ?_)
   rw [pl1,if_pos rfl,hashByValue_scannable 8 (x:=.int k tk) rfl]
   refine wpAny_bind (wpAny_pure ?_)
   rw [if_pos (show plainKind (.int k tk)=true from rfl)]
   have len:(ns++[k]).length=ns.length + 1:=by rw [List.length_append]; rfl
   refine wpAny_bind (wpAny_storeSet_of ho rfl ?_ (fits_of_scanBound (by rw [z1]; show _ < 4096; omega)))
   have ho1:=qQ (es':=es1) (t':=t1) ho
   have sb1:=Heap.SameBut.update s.heap a (Obj.putSet es1 t1)
   by_cases hfull:t1.tooFull=true
   ·obtain ⟨es2,t2,eR,z2,O2⟩:=rL hn m1 (by rw [m2]; exact O.room) p1 d1 pl1 l1 z1 hfull
    have hp2:=relayAll_perm t1 es1 (SetTable.grown es1.size)
    rw [eR] at hp2
    rw [if_pos (by rw [hfull]; rfl)]
    rw [eR]
    dsimp only
    refine wpAny_bind (wpAny_pure ?_)
    refine wpAny_bind (wpAny_storeSet_of ho1 rfl ?_ (fits_of_scanBound (by rw [z2]; show _ < 4096; omega)))
    refine wpAny_pure (wpAny_pure (hQ true _ (sb1.trans (Heap.SameBut.update _ a _)) ?_))
    rw [gD hk]
    exact ⟨es2,_,t2,qQ ho1,c1.perm' hp2,by rw [len]; exact z2,by rw [len]; exact O2⟩
   ·have hnf:t1.tooFull=false:=by simpa using hfull
    rw [if_neg (by rw [hnf]; decide)]
    refine wpAny_pure (wpAny_pure (hQ true _ sb1 ?_))
    rw [gD hk]
    refine ⟨es1,_,t1,ho1,c1,by rw [len]; exact z1,?_⟩
    rw [len]
    refine ⟨m1,?_,p1,u1,d1,pl1,l1⟩
    simp only [SetTable.tooFull,SetTable.fill,p1,d1,Array.size_empty,decide_eq_false_iff_not] at hnf
    omega
end
abbrev own (w:World):Bool:=!w.params.followText "set-order"
abbrev GE:Array GenState->Array GenState->Prop:=fun a b=>b=a
structure Src (prog:Program)(w:World)(c:String)(its:Array Value)(Is:Heap->Addr->Prop)(itO:Addr->Obj):Prop where
 type:∀ h l,Is h l->∃ o,h.get? l=some o∧o.cls = .type c
 keep:∀ h h' l,Is h l->(∀ o,h.get? l=some o->h'.get? l=some o)->Is h' l
 iter:∀ (A:Around)(s:Shared) l (Q:Value->Shared->Prop)(E:Value->Shared->Prop),Is s.heap l->Q (.ref s.heap.objs.size) { s with heap:=s.heap.push (itO l) }->wpAny (model prog w) A (pyIter (.ref l)) Q E s
 walk:∀ (A:Around) I l,A.handled=none->l≠I->∃ G,WalksS prog w A I [I,l] [I] GE its.size (fun i v=>its[i]?=some v) G∧∀ s:Shared,Is s.heap l->s.heap.get? I=some (itO l)->G 0 s
 itNew:∀ (h:Heap) l,(h.push (itO l)).get? h.objs.size=some (itO l)
 s1:isSubtype (.type c) (.type "set")=pure false
 s2:isSubtype (.type c) (.type "frozenset")=pure false
 nd:(Value.type c == Value.type "dict")=false
section
variable {prog:Program}{w:World}{A:Around}{R:Result->Shared->Prop}{I:Addr}{fp wr:List Addr}{n:Nat}{P:Nat->Value->Prop}{G:Nat->Shared->Prop}
theorem rX {led:Bool}(W:WalksS prog w A.in1 I fp wr GE n P G)(a:Addr)(ha:a ∉ fp)(val:Nat->Int)(hv:∀ i v,P i v->∃ t,v = .int (val i) t)(hn:n < 76):
 ∀ (k i:Nat)(s:Shared),n - i=k->i≤n->G i s->gV led s.heap a (firstMet val i) →
   (∀ z,Moved (a :: wr) GE s z->gV led z.heap a (firstMet val n)->R (.ok (.ret .none)) z) →
   codeAny (model prog w) A (.builtin "set.update.loop" ⟨[.ref a,.ref I],[]⟩) R s:=by
 have aw:a ∉ wr:=fun h=>ha (W.sub _ h)
 have up:∀ b,b∈wr->b∈a :: wr:=fun b hb=>List.mem_cons_of_mem _ hb
 have mv:∀ {y z:Shared}{ns:List Int},Moved wr GE y z->gV led y.heap a ns->gV led z.heap a ns:=fun m ⟨es,ep,t,o,r⟩=>⟨es,ep,t,m.heap a _ aw o,r⟩
 intro k
 induction k with
 | zero =>
   intro i s hk hi g S hR
   cases (show i=n by omega)
   refine codeAny_builtin PyProof.Rows.F.entry_set_update_loop ?_
   rw [Around.under_plainId PyProof.Rows.F.plain_set_update_loop _]
   refine wpAny_bind (m:=pyNext (.ref I)) ?_
   exact W.done s _ _ g fun z m=>wpAny_pure (hR z (m.mono up) (mv m S))
 | succ k ih =>
   intro i s hk hi g S hR
   refine codeAny_builtin PyProof.Rows.F.entry_set_update_loop ?_
   rw [Around.under_plainId PyProof.Rows.F.plain_set_update_loop _]
   refine wpAny_bind (m:=pyNext (.ref I)) ?_
   refine W.item i s _ _ (by omega) g fun v z hp g1 m=>?_
   obtain ⟨t,rfl⟩:=hv i v hp
   refine wpAny_bind (m:=holding [Value.int (val i) t] (setAdd a (.int (val i) t))) (wpAny_holding ?_)
   unfold setAdd
   refine wpAny_holding (wpAny_bind ((intKind prog w).pyHash (k:=val i) (intKind_is _ _ _ _) ?_))
   refine zO (s:={ z with toks:=z.toks + 1 }) (show gV led z.heap a _ from mv m S) (by have:=firstMet_length_le val i; omega) fun b h' sb S1=>?_
   rw [← firstMet_succ] at S1
   refine wpAny_pure ⟨plainId_quiet PyProof.Rows.F.plain_set_update_loop _,ih (i + 1) _ (by omega) (by omega) (W.frame _ z _ _ g1 (Nat.le_succ _) fun b hb o e=>?_) S1 fun y m1 S2=>?_⟩
   ·rw [sb.2 b fun h:b=a=>ha (h ▸ hb)]; exact e
   ·refine hR y (Moved.trans W.gtrans ((m.mono up).then_heap (Nat.le_succ _) fun b o hb e=>?_) m1) S2
    rw [sb.2 b fun h:b=a=>hb (by rw [h]; exact List.mem_cons_self)]; exact e
end
section
variable {prog:Program}{w:World}{A:Around}{E:Value->Shared->Prop}{s:Shared}
abbrev lr (w:World):Obj:=gQ #[] 0 (.fresh 0 0 (own w))
theorem Af (v:Value){Q:Value->Shared->Prop}(h:Q (.ref s.heap.objs.size) { s with heap:=s.heap.push (lr w) }):
 codeAny (model prog w) A (.call (.builtin "set.__new__") ⟨[.type "set",v],[]⟩) (wants Q E) s:=by
 refine codeAny_of_tree (show wpAny _ A.in1 (checkBuiltinCall "set.__new__" ⟨[.type "set",v],[]⟩ >>= fun _=>again (.builtin "set.__new__" ⟨[.type "set",v],[]⟩)) _ _ s from ?_)
 refine wpAny_bind (wpAny_of_eq (F.newCall_set_1 v) (wpAny_pure ⟨plainId_quiet F.plain_set_new _,codeAny_builtin F.entry_set_new ?_⟩))
 rw [Around.under_plainId F.plain_set_new _]
 unfold Builtin.«set.__new__» Builtin.Frozenset.newClass
 have su:=sub_set_self
 cases s
 dsimp only
 wp_walk
 refine wpAny_askSetting (wpAny_pure ?_)
 dsimp only [newObj]
 exact wpAny_bind (wpAny_alloc (wpAny_pure (wpAny_pure h)))
set_option maxHeartbeats 3200000 in
theorem lX {c:String}{its:Array Value}{Is:Heap->Addr->Prop}{itO:Addr->Obj}(X:Src prog w c its Is itO){l:Addr}{ns:List Int}{Q:Value->Shared->Prop}
 (hh:A.handled=none)(hl:Is s.heap l)(hi:IntsAre its.toList ns)(hb:its.size < 76)
 (h:∀ (h':Heap)(tk:Nat),gV (own w) h' s.heap.objs.size (firstMet (fun i=>ns.getD i 0) its.size)->(∀ b o,b < s.heap.objs.size->s.heap.get? b=some o->h'.get? b=some o) →
  s.toks≤tk->Q (.ref s.heap.objs.size) { s with heap:=h',toks:=tk }):
 wpAny (model prog w) A (call (.type "set") [.ref l]) Q E s:=by
 obtain ⟨_,_,mro⟩:=F.called_set.mro
 have made:=F.called_set.made
 have su:=F.called_set.sub
 refine wpAny_call (codeAny_of_tree (show wpAny _ _ (callAny (.type "set") _) _ _ _ from wpAny_pure ⟨Code.quiet_builtin _ (by decide +kernel),codeAny_builtin F.entry_type_call ?_⟩))
 rw [Around.under_plain (weight_type_call_type "set" [.ref l] []) rfl]
 have k1:=F.called_set.notType
 have k2:=F.called_set.canCreate
 have k3:=F.typeCall_set_1 (.ref l)
 repeat (any_goals (first | assumption | wp_step))
 refine codeAny_mono (Af (.ref l) (E:=E) (Q:=fun v z=>v = .ref s.heap.objs.size∧z={ s with heap:=s.heap.push (lr w) }) ⟨rfl,rfl⟩) fun r z hr=>?_
 cases r with
 | error e=>exact hr
 | ok fl =>
   cases fl with
   | ret obj =>
     obtain ⟨rfl,rfl⟩:=hr
     have oS:(s.heap.push (lr w)).get? s.heap.objs.size=some (lr w):=Heap.get?_push_size _ rfl
     have tS:Shared.TypeIs { s with heap:=s.heap.push (lr w) } (.ref s.heap.objs.size) "set":=⟨_,oS,rfl⟩
     have k4:=F.called_set.init.lookup
     have k5:=F.called_set.init.bind (.ref s.heap.objs.size)
     repeat (any_goals (first | assumption | wp_step))
     refine codeAny_mono (codeAny_call_builtin (R:=wants (fun v z=>v = .none∧∃ h' tk,z={ s with heap:=h',toks:=tk }∧gV (own w) h' s.heap.objs.size (firstMet (fun i=>ns.getD i 0) its.size) ∧
      (∀ b o,b < s.heap.objs.size->s.heap.get? b=some o->h'.get? b=some o)∧s.toks≤tk) E) F.called_set.init.plain F.entry_set_init (check_set_init_1 tS ?_)) fun r z hr=>?_
     ·have lS:Is (s.heap.push (lr w)) l:=X.keep _ _ _ hl fun o e=>Heap.get?_push_of_some _ e
      obtain ⟨⟨oc,od,oda,osl⟩,hol,hcl⟩:=X.type _ _ lS
      dsimp only at hcl
      subst hcl
      have hlt:l < s.heap.objs.size:=by
       obtain ⟨o,e,_⟩:=X.type _ _ hl
       exact Heap.lt_size e
      have tl:Shared.TypeIs { s with heap:=s.heap.push (lr w) } (.ref l) c:=⟨_,hol,rfl⟩
      have k6:=X.s1
      have k7:=X.s2
      have k8:=X.nd
      unfold Builtin.«set.__init__» noKeywords Builtin.Frozenset.updateFrom
      generalize ePI:pyIter=PI
      wp_walk
      subst ePI
      refine X.iter _ _ _ _ _ lS ?_
      refine wpAny_bind (wpAny_runValue ?_)
      have h3:A.in1.in1.in1.handled=none:=by simp [hh]
      have nI:l≠(s.heap.push (lr w)).objs.size:=by rw [Heap.size_push]; exact Nat.ne_of_lt (Nat.lt_succ_of_lt hlt)
      have nf:s.heap.objs.size ∉ [(s.heap.push (lr w)).objs.size,l]:=by
       rw [Heap.size_push]; simp only [List.mem_cons,List.not_mem_nil,or_false,not_or]
       exact ⟨Nat.ne_of_lt (Nat.lt_succ_self _),Nat.ne_of_gt hlt⟩
      obtain ⟨G,W,g0⟩:=X.walk A.in1.in1.in1 _ l h3 nI
      refine rX W s.heap.objs.size nf (fun i=>ns.getD i 0) (fun i v e=>IntsAre.int_at hi i v (by rw [Array.getElem?_toList]; exact e)) hb (its.size - 0) 0 _ rfl (Nat.zero_le _)
       (g0 _ (X.keep _ _ _ lS fun o e=>Heap.get?_push_of_some _ e) (X.itNew _ _)) ⟨#[],0,_,Heap.get?_push_of_some _ oS,⟨fun e he=>by simp at he,List.Perm.refl _⟩,rfl,Ok.fresh _⟩ ?_
      intro z m S
      have oldH:∀ b o,b < s.heap.objs.size->s.heap.get? b=some o->z.heap.get? b=some o:=fun b o hb e=>by
       refine m.heap b o ?_ (Heap.get?_push_of_some _ (Heap.get?_push_of_some _ e))
       rw [Heap.size_push]; simp only [List.mem_cons,List.not_mem_nil,or_false,not_or]
       exact ⟨Nat.ne_of_lt hb,Nat.ne_of_lt (Nat.lt_succ_of_lt hb)⟩
      have ez:z={ s with heap:=z.heap,toks:=z.toks }:=by
       have e1:z.gens=s.gens:=m.gens
       have e2:z.drawn=s.drawn:=m.drawn
       have e3:z.os=s.os:=m.os
       cases z; cases e1; cases e2; cases e3; rfl
      refine wpAny_pure (show wpAny _ _ (ret Value.none) _ _ _ from wpAny_pure ⟨rfl,z.heap,z.toks,ez,S,oldH,m.toks⟩)
     ·cases r with
      | error e=>exact hr
      | ok fl =>
        cases fl with
        | ret v =>
          obtain ⟨rfl,h',tk,rfl,S,oldH,htk⟩:=hr
          repeat (any_goals (first | assumption | wp_step))
          exact h h' tk S oldH htk
        | _=>exact hr.elim
   | _=>exact hr.elim
end
theorem u6 (prog:Program)(w:World)(its:Array Value):Src prog w "list" its (fun h l=>h.IsList l its) (fun l=>{ cls:=.type "list_iterator",data:=.fields #[.ref l,.int 0 0] }) where
 type:=fun h l ⟨o,e,c,_⟩=>⟨o,e,c⟩
 keep:=fun h h' l ⟨o,e,r⟩ k=>⟨o,k o e,r⟩
 iter:=fun A s l Q E hl h=>wpAny_pyIter_list hl h
 walk:=fun A I l hh hne=>⟨_,(Walks.list hh I l hne its).toS,fun s hl e=>⟨⟨_,e,rfl,rfl⟩,hl⟩⟩
 itNew:=fun h l=>Heap.get?_push_size _ rfl
 s1:=F.sub_list_set
 s2:=F.sub_list_frozenset
 nd:=by decide
theorem w6 (prog:Program)(w:World)(its:Array Value):Src prog w "tuple" its (fun h l=>h.IsTuple l its) (fun l=>{ cls:=.type "tuple_iterator",data:=.fields #[.ref l,.int 0 0] }) where
 type:=fun h l ⟨o,e,c,_⟩=>⟨o,e,c⟩
 keep:=fun h h' l ⟨o,e,r⟩ k=>⟨o,k o e,r⟩
 iter:=fun A s l Q E hl h=>wpAny_pyIter_tuple hl h
 walk:=fun A I l hh hne=>⟨_,(Walks.tuple hh I l hne its).toS,fun s hl e=>⟨⟨_,e,rfl,rfl⟩,hl⟩⟩
 itNew:=fun h l=>Heap.get?_push_size _ rfl
 s1:=by rw [isSubtype_type]; kernel_rfl
 s2:=by rw [isSubtype_type]; kernel_rfl
 nd:=by decide
theorem pf {α:Type}{l:List α}{i:Nat}(h:i < l.length):(l[i] :: l.eraseIdx i).Perm l:=by
 rw [List.eraseIdx_eq_take_drop_succ]
 refine (List.perm_middle).symm.trans ?_
 rw [← List.drop_eq_getElem_cons h,List.take_append_drop]
theorem xt {α:Type}(f:Nat->Nat):∀ (n k:Nat)(l:List α)(out:Array α),n=l.length->(pickOrder.go f n k l out).toList.Perm (out.toList++l):=by
 intro n
 induction n with
 | zero =>
   intro k l out h
   cases l with
   | nil=>unfold pickOrder.go; rw [List.append_nil]
   | cons x l=>cases h
 | succ n ih =>
   intro k l out h
   unfold pickOrder.go
   have hl:f k % l.length < l.length:=Nat.mod_lt _ (by omega)
   rw [List.getElem?_eq_getElem hl]
   dsimp only
   refine (ih (k + 1) _ _ (by rw [List.length_eraseIdx_of_lt hl]; omega)).trans ?_
   rw [Array.toList_push,List.append_assoc]
   exact List.Perm.append_left _ (pf hl)
theorem sd {α:Type}(f:Nat->Nat)(xs:Array α):(pickOrder f xs).toList.Perm xs.toList:=by
 have:=xt f xs.size 0 xs.toList #[] (by rw [Array.length_toList])
 exact this
def tL (w:World)(a:Addr)(ep:Nat)(es:Array Ent):Array Ent:=if w.params.followText "set-order" then pickOrder (w.params.setOrder a ep) es else es
theorem iJ (w:World)(a:Addr)(ep:Nat)(es:Array Ent):(tL w a ep es).toList.Perm es.toList:=by
 unfold tL
 split
 ·exact sd _ _
 ·exact List.Perm.refl _
def eO (w:World)(t:T)(i:Nat):Nat:=if w.params.followText "set-order" then 0 else if i=0 then 0 else t.place.getD (i - 1) 0 + 1
abbrev tN (w:World)(t:T)(a:Addr)(n ep i:Nat):Obj:={ cls:=.type "set_iterator",data:=.fields #[rawInt (eO w t i),rawInt i,.ref a,rawInt n,rawInt ep] }
theorem eh:Slot "set_iterator" "__next__" "set_iterator.__next__" :=
 .of (owner:="set_iterator") (n:="__next__") (by rw [typeLookup_type,builtinLookup_eq_fast]; kernel_rfl) (by decide +kernel) (by decide +kernel) (by decide +kernel) (by first | exact .inl (by decide +kernel) | exact .inr (by decide +kernel)) (by rw [isSubtype_type]; kernel_rfl)
theorem qP:entryFor table "set_iterator.__next__"=some Builtin.«set_iterator.__next__»:=entryFor_of_tree (by kernel_rfl)
theorem p6 (a:Value):argsOk "set_iterator.__next__" ⟨[a],[]⟩:=by unfold argsOk; kernel_rfl
theorem qc:Slot "set_iterator" "__iter__" "set_iterator.__iter__" :=
 .of (owner:="set_iterator") (n:="__iter__") (by rw [typeLookup_type,builtinLookup_eq_fast]; kernel_rfl) (by decide +kernel) (by decide +kernel) (by decide +kernel) (by first | exact .inl (by decide +kernel) | exact .inr (by decide +kernel)) (by rw [isSubtype_type]; kernel_rfl)
theorem xr:entryFor table "set_iterator.__iter__"=some Builtin.«dict_keyiterator.__iter__» :=
 entryFor_alias (id':="dict_keyiterator.__iter__") (by kernel_rfl) rfl (by decide +kernel) (by kernel_rfl)
theorem wz (a:Value):argsOk "set_iterator.__iter__" ⟨[a],[]⟩:=by unfold argsOk; kernel_rfl
theorem mq:entryFor table "set.__iter__"=some Builtin.«frozenset.__iter__» :=
 entryFor_alias (id':="frozenset.__iter__") (by kernel_rfl) rfl (by decide +kernel) (by kernel_rfl)
section
variable {prog:Program}{w:World}{A:Around}{E:Value->Shared->Prop}{s:Shared}
theorem iU {a:Addr}{es:Array Ent}{ep n:Nat}{t:T}{led:Bool}{Q:(Array Ent × Nat × T)->Shared->Prop}(ho:s.heap.get? a=some (gQ es ep t))(O:Ok led n t)(hz:es.size=n)(h:Q (es,ep,t) s):
 wpAny (model prog w) A (setState a) Q E s:=wpAny_setState_of ho rfl (by rw [hz]; exact O.fits) h
theorem pz {Q:Bool->Shared->Prop}(h:Q (w.params.followText "set-order") s):wpAny (model prog w) A setsByText Q E s:=by
 unfold setsByText
 exact wpAny_bind (wpAny_askSetting (wpAny_pure h))
theorem qg {a:Addr}{es:Array Ent}{ep n i:Nat}{t:T}{Q:Option (Value × Nat)->Shared->Prop}(ho:s.heap.get? a=some (gQ es ep t))(O:Ok (own w) n t)(hz:es.size=n)(hi:i≤n)
 (h:Q (((tL w a ep es)[i]?).map fun e=>(e.2,eO w t (i + 1))) s):wpAny (model prog w) A (setNext a (eO w t i) i ep) Q E s:=by
 unfold setNext
 refine wpAny_bind (iU ho O hz ?_)
 dsimp only
 refine wpAny_bind (pz ?_)
 by_cases ht:w.params.followText "set-order"=true
 ·rw [if_pos ht,if_neg (by simp)]
  unfold setWalk
  refine wpAny_bind (wpAny_bind (iU ho O hz ?_))
  dsimp only
  refine wpAny_bind (pz ?_)
  rw [if_pos ht]
  refine wpAny_bind (wpAny_askSetting (wpAny_pure (wpAny_pure ?_)))
  simp only [tL,eO,ht,if_true] at h ⊢
  exact h
 ·rw [if_neg ht]
  have hd:(!t.plain&&decide (es.size > 1))=false:=by rw [O.plain]; rfl
  show wpAny _ _ (if (!t.plain&&decide (es.size > 1))=true then _ else _) _ _ _
  rw [hd,if_neg (by decide)]
  have hled:t.led=true:=by rw [O.led]; simp [own,ht]
  refine wpAny_bind ?_
  show wpAny _ _ (if (!t.led&&!es.isEmpty)=true then _ else _) _ _ _
  rw [hled,if_neg (by simp)]
  refine wpAny_pure ?_
  have eb:SetTable.below t.place (eO w t i)=i:=by
   unfold eO
   rw [if_neg ht]
   by_cases h0:i=0
   ·rw [if_pos h0,h0]; exact oW O.up
   ·rw [if_neg h0,pR O.up (by rw [O.size]; omega)]; omega
  refine wpAny_pure ?_
  rw [eb]
  have eo:tL w a ep es=es:=by unfold tL; rw [if_neg ht]
  rw [eo] at h
  rcases Nat.lt_or_ge i n with g | g
  ·have e1:es[i]?=some (es[i]'(by omega)):=by simp [show i < es.size from by omega]
   have e2:t.place[i]?=some (t.place.getD i 0):=oO (by rw [O.size]; exact g)
   rw [e1] at h
   rw [e1,e2]
   have e3:eO w t (i + 1)=t.place.getD i 0 + 1:=by unfold eO; rw [if_neg ht,if_neg (by omega)]; rfl
   rw [e3] at h
   exact h
  ·have e1:es[i]?=none:=Array.getElem?_eq_none (by omega)
   rw [e1] at h ⊢
   exact h
theorem xh {a I:Addr}{es:Array Ent}{ep n i:Nat}{t:T}{x:Ent}{Q:Option Value->Shared->Prop}(ho:s.heap.get? a=some (gQ es ep t))(hI:s.heap.get? I=some (tN w t a n ep i))(O:Ok (own w) n t)(hz:es.size=n)
 (hi:i < n)(hx:(tL w a ep es)[i]?=some x)(hQ:∀ h',h'.get? I=some (tN w t a n ep (i + 1))->Heap.SameBut I s.heap h'->Q (some x.2) { s with heap:=h' }):
 wpAny (model prog w) A (pyNext (.ref I)) Q E s:=by
 have tI:s.TypeIs (.ref I) "set_iterator":=⟨_,hI,rfl⟩
 unfold pyNext
 refine wpAny_bind (wpAny_attempt (wpAny_callSpecial?_slot (name:=Str.ofString "__next__") tI eh (wpAny_call_entry eh tI qP ?_ (p6 _))))
 unfold Builtin.«set_iterator.__next__»
 refine wpAny_bind (m:=slotArgs "__next__" 0 _) (wpAny_pure ?_)
 refine wpAny_bind (wpAny_fieldsOf hI rfl ?_)
 dsimp only [rawInt]
 refine wpAny_bind (wpAny_setEntries_of ho rfl (by rw [hz]; exact O.fits) ?_)
 rw [if_neg (by rw [hz]; simp)]
 simp only [Int.toNat_natCast]
 refine wpAny_bind (qg ho O hz (Nat.le_of_lt hi) ?_)
 rw [hx]
 dsimp only [Option.map]
 refine wpAny_bind (wpAny_setField_rec hI (by simp) fun h1 o1 b1=>?_)
 refine wpAny_bind (wpAny_setField_rec (s:={ s with heap:=h1 }) o1 (by simp) fun h2 o2 b2=>?_)
 refine wpAny_pure ⟨_,rfl,wpAny_pure (hQ h2 ?_ (b1.trans b2))⟩
 rw [o2]
 rfl
theorem yF {a I:Addr}{es:Array Ent}{ep n:Nat}{t:T}{Q:Option Value->Shared->Prop}(hh:A.handled=none)(ho:s.heap.get? a=some (gQ es ep t))(hI:s.heap.get? I=some (tN w t a n ep n))(O:Ok (own w) n t)(hz:es.size=n)
 (hQ:∀ h',Heap.ExtBut I s.heap h'->Q none { s with heap:=h' }):wpAny (model prog w) A (pyNext (.ref I)) Q E s:=by
 have tI:s.TypeIs (.ref I) "set_iterator":=⟨_,hI,rfl⟩
 have hx:(tL w a ep es)[n]?=none:=Array.getElem?_eq_none (by rw [← Array.length_toList,(iJ w a ep es).length_eq,Array.length_toList,hz]; exact Nat.le_refl _)
 unfold pyNext
 refine wpAny_bind (wpAny_attempt (wpAny_callSpecial?_slot (name:=Str.ofString "__next__") tI eh (wpAny_call_entry eh tI qP ?_ (p6 _))))
 unfold Builtin.«set_iterator.__next__»
 refine wpAny_bind (m:=slotArgs "__next__" 0 _) (wpAny_pure ?_)
 refine wpAny_bind (wpAny_fieldsOf hI rfl ?_)
 dsimp only [rawInt]
 refine wpAny_bind (wpAny_setEntries_of ho rfl (by rw [hz]; exact O.fits) ?_)
 rw [if_neg (by rw [hz]; simp)]
 simp only [Int.toNat_natCast]
 refine wpAny_bind (qg ho O hz (Nat.le_refl _) ?_)
 rw [hx]
 dsimp only [Option.map]
 refine wpAny_bind (wpAny_setField hI rfl (by simp) ?_)
 refine wpAny_bind (m:=newExc (.type "StopIteration") []) ?_
 unfold newExc newTuple
 refine wpAny_bind (wpAny_newObj_type ?_ (by size_fits))
 refine wpAny_bind (m:=firstArgMember _ _) (wpAny_of_eq (a:=Value.none) rfl ?_)
 refine wpAny_newObj_type ?_ (by size_fits)
 unfold raiseNew
 refine wpAny_bind (wpAny_handled ?_)
 rw [show A.in1.handled=none from hh]
 refine wpAny_bind (wpAny_pure (wpAny_throw ?_))
 refine wpAny_bind (wpAny_isInstance (b:=true) (T:="StopIteration") ⟨_,Heap.get?_push_size _ rfl,rfl⟩ isSubtype_stop ?_)
 refine wpAny_pure (hQ _ ?_)
 exact ((Heap.SameBut.update ..).extBut.push _).push _
theorem xN {a I:Addr}{es:Array Ent}{ep n:Nat}{t:T}(hh:A.handled=none)(hne:a≠I)(O:Ok (own w) n t)(hz:es.size=n):
 WalksS prog w A I [I,a] [I] GE n (fun i v=>((tL w a ep es)[i]?).map Prod.snd=some v) (fun i s=>s.heap.get? a=some (gQ es ep t)∧s.heap.get? I=some (tN w t a n ep i)) where
 sub:=fun b hb=>by simp at hb; simp [hb]
 grefl:=fun _=>rfl
 gtrans:=fun _ _ _ h1 h2=>h2.trans h1
 frame:=fun i s h' tk g _ k=>⟨k a (by simp) _ g.1,k I (by simp) _ g.2⟩
 item:=fun i s Q E hi g hQ=>by
  have hl:i < (tL w a ep es).size:=by rw [← Array.length_toList,(iJ w a ep es).length_eq,Array.length_toList,hz]; exact hi
  have hx:(tL w a ep es)[i]?=some ((tL w a ep es)[i]):=by simp [hl]
  refine xh g.1 g.2 O hz hi hx fun h' o b=>hQ _ _ (by rw [hx]; rfl) ⟨b.extBut a _ hne g.1,o⟩ ⟨fun c o hc e=>b.extBut c o (fun h=>hc (by simp [h])) e,rfl,rfl,rfl,Nat.le_refl _⟩
 done:=fun s Q E g hQ=>yF hh g.1 g.2 O hz fun h' k=>hQ _ ⟨fun c o hc e=>k c o (fun h=>hc (by simp [h])) e,rfl,rfl,rfl,Nat.le_refl _⟩
 self:=fun i s Q E g hQ=>by
  have tI:s.TypeIs (.ref I) "set_iterator":=⟨_,g.2,rfl⟩
  refine wpAny_pyIter_slot tI qc (wpAny_call_entry qc tI xr ?_ (wz _))
  exact wpAny_pure ⟨_,rfl,"set_iterator",_,tI,eh.lookup,hQ⟩
theorem yQ {a:Addr}{es:Array Ent}{ep n:Nat}{t:T}{Q:Value->Shared->Prop}(ho:s.heap.get? a=some (gQ es ep t))(O:Ok (own w) n t)(hz:es.size=n)
 (h:Q (.ref s.heap.objs.size) { s with heap:=s.heap.push (tN w t a n ep 0) }):wpAny (model prog w) A (pyIter (.ref a)) Q E s:=by
 have ta:s.TypeIs (.ref a) "set":=⟨_,ho,rfl⟩
 have hf:t.fits es.size=true:=by rw [hz]; exact O.fits
 refine wpAny_pyIter_slot ta F.slot_set_iter (wpAny_call_entry F.slot_set_iter ta mq ?_ (F.args_set_iter_1 _))
 unfold Builtin.«frozenset.__iter__» Builtin.Frozenset.slot0
 refine wpAny_bind (m:=slotArgs "__iter__" 0 _ >>= _) (wpAny_bind (wpAny_pure (wpAny_pure ?_)))
 unfold Builtin.Frozenset.sizeOf
 refine wpAny_bind (wpAny_bind (wpAny_setEntries_of ho rfl hf (wpAny_pure ?_)))
 have es0:eO w t 0=0:=by unfold eO; split <;> rfl
 unfold setDrawn
 refine wpAny_bind (wpAny_bind (iU ho O hz ?_))
 dsimp only
 refine wpAny_bind (pz (wpAny_pure ?_))
 have hd:(!w.params.followText "set-order"&&(!t.plain&&decide (es.size > 1)))=false:=by rw [O.plain]; simp
 refine (show wpAny _ _ (if (!w.params.followText "set-order"&&(!t.plain&&decide (es.size > 1)))=true then _ else _) _ _ _ from ?_)
 rw [hd,if_neg (by decide)]
 refine wpAny_bind (wpAny_pure (wpAny_bind (wpAny_setEpoch_of ho rfl hf ?_)))
 refine wpAny_bind (wpAny_newObj_type (wpAny_pure ⟨_,rfl,"set_iterator",_,⟨_,Heap.get?_push_size _ rfl,rfl⟩,eh.lookup,?_⟩))
 rw [hz]
 unfold tN at h
 rw [es0] at h
 exact h
end
abbrev fO (xs:Array Value)(c:Nat):Obj:={ cls:=.type "list",dict:=none,data:=.seq xs c,slots:=#[] }
section
variable {prog:Program}{w:World}{A:Around}{E:Value->Shared->Prop}{s:Shared}
theorem um:typeLookup (.type "set") "__len__"=pure (some (.builtin "set.__len__")):=F.slot_set_len.lookup
theorem nW {α:Type}{c:Bool}{x y:Sem α}{Q:α->Shared->Prop}(h:c=true)(g:wpAny (model prog w) A x Q E s):wpAny (model prog w) A (if c=true then x else y) Q E s:=by
 rw [if_pos h]; exact g
theorem ym {a:Addr}{Q:Bool->Shared->Prop}(ta:s.TypeIs (.ref a) "set")(h:Q false s):wpAny (model prog w) A (Builtin.List.listLengthHint (.ref a)) Q E s:=by
 unfold Builtin.List.listLengthHint
 refine wpAny_bind (wpAny_specialOf ta um ?_)
 dsimp only
 rw [show splitId "set.__len__"=some ("set","__len__") from by decide +kernel]
 dsimp only
 refine wpAny_bind (wpAny_isInstance ta sub_set_self ?_)
 rw [if_neg (by decide)]
 exact nW (by decide +kernel) (wpAny_bind (wpAny_typeOf ta (wpAny_pure h)))
theorem xg {P:Array Ent}{es:Array Ent}{ns:List Int}(c:Cont es ns)(p:P.toList.Perm es.toList){acc:Array Value}{n:Nat}(hz:es.size=n)(h:ItemsOf (fun i v=>(P[i]?).map Prod.snd=some v) acc n):
 ∃ ms,IntsAre acc.toList ms∧ms.Perm ns:=by
 have hP:P.toList.length=n:=by rw [p.length_eq,Array.length_toList,hz]
 have e:acc.toList=P.toList.map Prod.snd:=by
  refine List.ext_getElem? fun i=>?_
  rw [List.getElem?_map,Array.getElem?_toList,Array.getElem?_toList]
  rcases Nat.lt_or_ge i n with g | g
  ·have ha:acc[i]?=some (acc[i]'(by rw [h.1]; exact g)):=by simp [h.1,g]
   rw [ha,h.2 i _ ha]
  ·rw [Array.getElem?_eq_none (by rw [h.1]; exact g),Array.getElem?_eq_none (by rw [← Array.length_toList,hP]; exact g)]; rfl
 have c':Cont P ns:=c.perm' p
 refine ⟨_,mr (vs:=acc.toList) fun v hv=>?_,?_⟩
 ·rw [e] at hv
  obtain ⟨x,hx,rfl⟩:=List.mem_map.mp hv
  obtain ⟨k,t,rfl⟩:=c'.isI x hx
  exact ⟨k,t,rfl⟩
 ·rw [e,List.map_map]
  exact c'.perm
set_option maxHeartbeats 3000000 in
theorem sO {a:Addr}{ns:List Int}{Q:List Value->Shared->Prop}(hh:A.handled=none)(S:gV (own w) s.heap a ns)(hn:ns.length < 4000)
 (hQ:∀ (h':Heap)(tk:Nat)(vs:List Value)(ms:List Int),IntsAre vs ms->ms.Perm ns->(∀ b o,s.heap.get? b=some o->h'.get? b=some o)->s.toks≤tk->Q vs { s with heap:=h',toks:=tk }):
 wpAny (model prog w) A (collect (.ref a)) Q E s:=by
 obtain ⟨es,ep,t,ho,c,hz,O⟩:=S
 have hlt:a < s.heap.objs.size:=Heap.lt_size ho
 unfold collect
 refine wpAny_bind (wpAny_runValue (codeAny_builtin PySem.F.entry_proto_collect ?_))
 rw [Around.under_plainId PySem.F.plain_proto_collect _]
 refine wpAny_bind (m:=newList []) (wpAny_newObj_type ?_)
 refine wpAny_pure ⟨plainId_quiet PySem.F.plain_list_iadd _,codeAny_builtin PySem.F.entry_list_iadd ?_⟩
 rw [Around.under_plainId PySem.F.plain_list_iadd _]
 refine (show wpAny _ A.in1 (Builtin.List.listExtendWith (.ref s.heap.objs.size) (.ref a) (.ref s.heap.objs.size)) _ _ _ from ?_)
 unfold Builtin.List.listExtendWith
 have ho1:(s.heap.push (fO #[] 0)).get? a=some (gQ es ep t):=Heap.get?_push_of_some _ ho
 refine wpAny_bind (wpAny_typeOf (T:="set") ⟨_,ho1,rfl⟩ ?_)
 rw [if_neg (by
  have:Builtin.List.listSameRef (.ref s.heap.objs.size) (.ref a)=false:=by
   simp only [Builtin.List.listSameRef,beq_eq_false_iff_ne]; exact Nat.ne_of_gt hlt
  rw [this]; decide)]
 refine wpAny_bind (yQ (s:={ s with heap:=s.heap.push (fO #[] 0) }) ho1 O hz ?_)
 have ho2:((s.heap.push (fO #[] 0)).push (tN w t a ns.length ep 0)).get? a=some (gQ es ep t):=Heap.get?_push_of_some _ ho1
 refine wpAny_bind (wpAny_holding (ym ⟨_,ho2,rfl⟩ ?_))
 have hI0:((s.heap.push (fO #[] 0)).push (tN w t a ns.length ep 0)).get? (s.heap.push (fO #[] 0)).objs.size=some (tN w t a ns.length ep 0):=Heap.get?_push_size _ rfl
 have hL0:((s.heap.push (fO #[] 0)).push (tN w t a ns.length ep 0)).get? s.heap.objs.size=some (fO #[] 0):=Heap.get?_push_of_some _ (Heap.get?_push_size _ rfl)
 have we:(s.heap.push (fO #[] 0)).objs.size=s.heap.objs.size + 1:=Heap.size_push _ _
 refine nW (by decide +kernel) (wpAny_bind (wpAny_rule (wpAny_bind ?_)))
 refine (show wpAny _ A.in1 (updateSeq s.heap.objs.size (·.push .none) >>= fun _=>updateSeq s.heap.objs.size (·.pop)) _ _ _ from wpAny_bind (wpAny_updateSeq hL0 rfl ?_))
 have hL1:=Heap.get?_update_self (Obj.mapSeq (·.push Value.none)) hL0 rfl
 refine wpAny_updateSeq hL1 rfl ?_
 have hL2:=Heap.get?_update_self (Obj.mapSeq (·.pop)) hL1 rfl
 have up:∀ b o,b≠s.heap.objs.size->((s.heap.push (fO #[] 0)).push (tN w t a ns.length ep 0)).get? b=some o →
  ((((s.heap.push (fO #[] 0)).push (tN w t a ns.length ep 0)).update s.heap.objs.size (Obj.mapSeq (·.push Value.none))).update s.heap.objs.size (Obj.mapSeq (·.pop))).get? b=some o :=
  fun b o hb e=>(Heap.get?_update_other _ _ (Ne.symm hb)).trans ((Heap.get?_update_other _ _ (Ne.symm hb)).trans e)
 have nI:a≠(s.heap.push (fO #[] 0)).objs.size:=by rw [we]; exact Nat.ne_of_lt (Nat.lt_succ_of_lt hlt)
 have nL:(s.heap.push (fO #[] 0)).objs.size≠s.heap.objs.size:=by rw [we]; exact Nat.succ_ne_self _
 have W:=xN (prog:=prog) (A:=A.in1) (ep:=ep) (es:=es) (by simp [hh]) nI O hz
 refine wpAny_pure ⟨plainId_quiet PySem.F.plain_extend_loop _,codeAny_extend_loopS W (by rw [sizeLine_eq]; omega) s.heap.objs.size (by
  simp only [List.mem_cons,List.not_mem_nil,or_false,not_or]; exact ⟨nL.symm,Nat.ne_of_gt hlt⟩) _ ns.length 0 _ _ _ rfl (Nat.zero_le _) ⟨up _ _ (Nat.ne_of_lt hlt) ho2,up _ _ nL hI0⟩ hL2 (ItemsOf.nil _) fun z acc c' m oz it=>?_⟩
 refine wpAny_bind (wpAny_load oz (wpAny_pure ?_))
 obtain ⟨ms,i1,i2⟩:=xg c (iJ w a ep es) hz it
 have ez:z={ s with heap:=z.heap,toks:=z.toks }:=by
  have e1:z.gens=s.gens:=m.gens
  have e2:z.drawn=s.drawn:=m.drawn
  have e3:z.os=s.os:=m.os
  cases z; cases e1; cases e2; cases e3; rfl
 rw [ez]
 refine hQ z.heap z.toks acc.toList ms i1 i2 (fun b o e=>?_) m.toks
 have hb:=Heap.lt_size e
 refine m.heap b o ?_ (up b o (Nat.ne_of_lt hb) (Heap.get?_push_of_some _ (Heap.get?_push_of_some _ e)))
 simp only [List.mem_cons,List.not_mem_nil,or_false,not_or]
 refine ⟨Nat.ne_of_lt hb,?_⟩
 rw [we]; exact Nat.ne_of_lt (Nat.lt_succ_of_lt hb)
theorem rB {h:Heap}{D:Addr}{vs:List Value}{c:Nat}(out:Array Value)(e:h.get? D=some (seqObj "list" vs.toArray c)):∃ c',(sortedHeap h D vs out).get? D=some (fO out c'):=by
 have hD:=Heap.lt_size e
 have e1:=get?_update_seq e (fun _=>#[])
 unfold sortedHeap
 have e2:(((h.update D (Obj.mapSeq fun _=>#[])).push (seqObj "tuple" vs.toArray 0)).push (seqObj "list" #[] 0)).get? D=_:=Heap.get?_push_of_some _ (Heap.get?_push_of_some _ e1)
 exact ⟨_,get?_update_seq e2 fun _=>out⟩
theorem oR {h:Heap}{D b:Addr}{vs:List Value}{out:Array Value}{o:Obj}(hb:b≠D)(e:h.get? b=some o):(sortedHeap h D vs out).get? b=some o:=by
 unfold sortedHeap
 refine (Heap.get?_update_other _ _ (Ne.symm hb)).trans (Heap.get?_push_of_some _ (Heap.get?_push_of_some _ ((Heap.get?_update_other _ _ (Ne.symm hb)).trans e)))
theorem vI {a:Addr}{ns:List Int}{Q:Value->Shared->Prop}(hh:A.handled=none)(S:gV (own w) s.heap a ns)(h64:ns.length < 64)
 (h:∀ (h':Heap)(tk:Nat)(D:Addr)(out:Array Value)(ms:List Int)(c:Nat),IntsAre out.toList ms->ms.Perm ns->ms.Pairwise (· ≤ ·)->h'.get? D=some (fO out c)->s.heap.get? D=none →
  (∀ b o,s.heap.get? b=some o->h'.get? b=some o)->s.toks≤tk->Q (.ref D) { s with heap:=h',toks:=tk }):wpAny (model prog w) A (call (.builtin "sorted") [.ref a]) Q E s:=by
 refine Calls.call_function_entry kind_sorted plain_sorted entry_sorted (args_sorted1 _) ?_
 unfold Builtin.«sorted»
 refine wpAny_bind (m:=checkCount "sorted" 1 1 _) (wpAny_pure ?_)
 refine wpAny_bind (sO (by simpa using hh) S (by omega) fun h1 tk vs ms i1 i2 k1 t1=>?_)
 have hv:vs.length < 64:=by
  have:=i1.length
  rw [this,i2.length_eq]; exact h64
 refine wpAny_bind (m:=newList vs) (wpAny_newList ?_ (hsz:=by rw [sizeLine_eq]; omega))
 have oD:(h1.push (seqObj "list" vs.toArray 0)).get? h1.objs.size=some (seqObj "list" vs.toArray 0):=Heap.get?_push_size _ rfl
 have fr:s.heap.get? h1.objs.size=none:=by
  cases e:s.heap.get? h1.objs.size with
  | none=>rfl
  | some o=>exact absurd (Heap.lt_size (k1 _ _ e)) (Nat.lt_irrefl _)
 refine wpAny_bind (wpAny_holding (wpAny_call_entry slot_list_sort ⟨_,oD,rfl⟩ entry_list_sort (list_sort_tree oD i1 hv fun out ns' a1 a2 a3=>⟨_,rfl,?_⟩) (args_list_sort _)))
 obtain ⟨c,oc⟩:=rB out oD
 refine wpAny_pure ⟨_,rfl,h _ tk _ out ns' c a1 (a2.trans i2) a3 oc fr (fun b o e=>?_) t1⟩
 exact oR (fun q=>by rw [q,fr] at e; cases e) (Heap.get?_push_of_some _ (k1 b o e))
end
end St
namespace L2
open PySem PySem.Spec PyProof.Rows PySem.W
def rQ (ns:List Int):List Int:=firstMet (fun i=>ns.getD i 0) ns.length
theorem j4 (ns:List Int):rQ ns=ns.foldl step_dedup []:=by
 have e:(List.range ns.length).map (fun i=>ns.getD i 0)=ns:=by
  apply List.ext_getElem
  ·simp
  ·intro i h1 h2
   simp [h2]
 unfold rQ firstMet
 rw [e]
theorem d6:∀ (ns acc:List Int),acc.Nodup->(ns.foldl step_dedup acc).Nodup∧∀ x,x∈ns.foldl step_dedup acc ↔ x∈acc∨x∈ns
 | [],acc,h=>⟨h,fun x=>by simp⟩
 | n :: ns,acc,h=>by
   rw [List.foldl_cons]
   by_cases q:n∈acc
   ·rw [St.nJ q]
    obtain ⟨a,b⟩:=d6 ns acc h
    refine ⟨a,fun x=>(b x).trans ⟨fun z=>z.imp id (List.mem_cons_of_mem _),fun z=>?_⟩⟩
    rcases z with z | z
    ·exact .inl z
    ·rcases List.mem_cons.mp z with rfl | z
     ·exact .inl q
     ·exact .inr z
   ·rw [St.gD q]
    have nd:(acc++[n]).Nodup:=by
     refine List.nodup_append.mpr ⟨h,by simp,fun a ha b hb z=>?_⟩
     rw [List.mem_singleton] at hb
     exact q (hb ▸ z ▸ ha)
    obtain ⟨a,b⟩:=d6 ns (acc++[n]) nd
    refine ⟨a,fun x=>(b x).trans ?_⟩
    rw [List.mem_append,List.mem_singleton,List.mem_cons,or_assoc]
theorem pQ (ns:List Int):(rQ ns).Nodup:=by rw [j4]; exact (d6 ns [] List.nodup_nil).1
theorem tQ (ns:List Int)(x:Int):x∈rQ ns ↔ x∈ns:=by
 rw [j4,(d6 ns [] List.nodup_nil).2]; simp
theorem qp (ns:List Int):(rQ ns).length≤ns.length:=firstMet_length_le _ _
theorem zD {ms:List Int}(h:ms.Pairwise (· ≤ ·))(d:ms.Nodup):ms.Pairwise (· < ·):=
 (List.Pairwise.and h d).imp fun ⟨a,b⟩=>Int.lt_iff_le_and_ne.mpr ⟨a,b⟩
def uv (K:Frag)(ta:TE):TE:=fun σ H Q=>cG ta tNil σ H fun vs H1=>∃ (l:Addr)(ns:List Int),vs=[.ref l]∧(a7 K H1 l (ns.map V.int)∨bg K H1 l (ns.map V.int))∧ns.length < 64 ∧
 ∀ (D:Addr)(ms:List Int),H1 D=none->ms.Pairwise (· < ·)->(∀ x,x∈ms ↔ x∈ns)->Q (.ref D) (upd H1 D (.lst (ms.map V.int)))
section
variable {X:Cx}
theorem oX {e:Expr}{ta:TE}{p p2 pos pos2:Pos}{K:Frag}(hK:X.K=K)(ha:PE X e ta)(hc:X.calm=true)(hgl:Gl X "sorted")(hml:X.mg "sorted"=none)(hgs:Gl X "set")(hms:X.mg "set"=none)(hs:eT e=false:=by rfl):
 PE X (.Call (.Name "sorted" p) [.Call (.Name "set" p2) [e] [] pos2] [] pos) (uv K ta):=by
 subst hK
 intro pins s σ H Q I h
 refine wpAny_Call_Name_kw (dH I hgl hml (by rfl) ?_ (by decide) (by decide))
 refine callWith_builtin1 ?_ (bu rfl) rfl
 rw [bu rfl]
 show wpAny _ _ (spliced ((false,eval (.Call (.Name "set" p2) [e] [] pos2) X.env):: backTo pos (starEach [] X.env))) _ _ s
 refine Calls.spliced_cons ?_
 refine wpAny_Call_Name_kw (dH I hgs hms (by rfl) ?_ (by decide) (by decide))
 refine callWith_type1 (br (aj ha af hs pos2 pins s σ H _ I h) fun us s1 ⟨vs,H1,I1,r1,l,ns,hv,hq,hz,q⟩=>?_) (bu hs) rfl
 subst hv
 obtain ⟨u,rfl,ru⟩:=c0 r1
 cases (show u=Value.ref l from ru)
 have hd:=I.ok.hd hc
 have fin:∀ (h':Heap)(tk:Nat),St.gV (St.own X.w) h' s1.heap.objs.size (rQ ns)->(∀ b o,b < s1.heap.objs.size->s1.heap.get? b=some o->h'.get? b=some o) →
  wpAny (model X.prog X.w) X.A (call (.builtin "sorted") [.ref s1.heap.objs.size]) (EP X pins σ Q) X.xe { s1 with heap:=h',toks:=tk }:=by
  intro h' tk S old
  have I2:Inv X pins σ H1 { s1 with heap:=h',toks:=tk }:=I1.kept (t':=tk) fun b o e=>old b o (Heap.lt_size e) e
  refine St.vI (s:={ s1 with heap:=h',toks:=tk }) hd S (by have:=qp ns; omega) fun h2 tk2 D out ms c i1 i2 i3 oD fr k2 _=>?_
  have hlen:(ms.map V.int).length≤sizeLine:=by
   rw [List.length_map,i2.length_eq,sizeLine_eq]
   have:=qp ns; omega
  exact ⟨.ref D,_,I2.newObj (t':=tk2) (o:=.lst (ms.map V.int)) k2 fr ⟨hlen,out.toList,c,uL i1,by simpa using oD⟩,rfl,
   q D ms (I2.hnone fr) (zD i3 (i2.symm.nodup (pQ ns))) fun x=>(i2.mem_iff).trans (tQ ns x)⟩
 rcases hq with hq | hq
 ·obtain ⟨its,rv,pl,hz2⟩:=I1.list hq
  have e1:=rv.length
  rw [List.length_map] at e1
  refine St.lX (St.u6 X.prog X.w its.toArray) hd pl.isList (by simpa using ig rv) (by rw [List.size_toArray]; omega) fun h' tk S old _=>?_
  have es:its.toArray.size=ns.length:=by rw [List.size_toArray]; exact e1.symm
  rw [es] at S
  exact Calls.spliced_nil (fin h' tk S old)
 ·obtain ⟨its,rv,pl,hz2⟩:=I1.tuple hq
  have e1:=rv.length
  rw [List.length_map] at e1
  refine St.lX (St.w6 X.prog X.w its.toArray) hd pl (by simpa using ig rv) (by rw [List.size_toArray]; omega) fun h' tk S old _=>?_
  have es:its.toArray.size=ns.length:=by rw [List.size_toArray]; exact e1.symm
  rw [es] at S
  exact Calls.spliced_nil (fin h' tk S old)
end
end L2
namespace K05
open PySem L2 PySem.W Nm Srt Dg
abbrev qb:Stmt:=(aY 40)
abbrev gZ:Stmt:=(aY 44)
theorem a9.same {H H':Hp}{r:Addr}(h:a9 H r)(s:aA H H'):a9 H' r:=by
 obtain ⟨l,x,e,h⟩:=h
 exact ⟨l,x,s _ _ e,h⟩
theorem a9.ne {H:Hp}{r a:Addr}(h:a9 H r)(e:H a=none):a≠r:=fun z=>by
 obtain ⟨l,x,h,_⟩:=h
 rw [z,h] at e
 cases e
theorem a9.keepT {H H':Hp}{r:Addr}(h:a9 H r)(s:SameBut r H H'):aB H H':=fun b xs e=>s b _ e fun z=>by
 obtain ⟨l,x,e',_⟩:=h
 rw [z,e'] at e
 cases e
def qV (p:Int)(n:Nat)(t:Tm):Prop:=Gn p n t.2∧t.1.Pairwise (· < ·)∧(∀ k∈t.1,0≤k∧k < 60)∧t.1.length≤60
def spLTerms:Sp:=fun vs H Q _=>∃ (r:Addr)(p:Int),vs=[.ref r,.int p]∧a9 H r∧FP p ∧
 ∀ (D:Addr)(ys:List V)(ts:List Tm)(H':Hp),H D=none->H' D=some (.lst ys)->aZ H' ys ts->ts.length≤6->(∀ t∈ts,qV p 45 t)->a9 H' r->SameBut r H H'->Q (.ref D) H'
theorem jr:∀ {ks:List Int}{lo:Int},ks.Pairwise (· < ·)->(∀ k∈ks,lo≤k∧k < 60)->lo≤60->lo + ks.length≤60
 | [],lo,_,_,h=>by simpa using h
 | k :: ks,lo,h,hb,_=>by
   obtain ⟨h1,h2⟩:=List.pairwise_cons.mp h
   have b0:=hb k List.mem_cons_self
   have:=jr (lo:=k + 1) h2 (fun x hx=>⟨by have:=h1 x hx; omega,(hb x (List.mem_cons_of_mem _ hx)).2⟩) (by omega)
   rw [List.length_cons]
   push_cast
   omega
theorem jN {r a:Addr}{H H':Hp}(s:SameBut r H H')(n:a≠r)(h:H' a=none):H a=none:=by
 cases e:H a with
 | none=>rfl
 | some o=>rw [s _ _ e n] at h; cases h
theorem vq:FnScope ["_law_prime_here","_law_one","_law_other"] ["_law_prime_here","_law_one","_law_other"] (ao qb):=dB (by decide +kernel)
theorem dZ:FnScope ["_law_room_here","_law_prime_here","_law_some","_law_found","_law_k","_law_product"] ["_law_room_here","_law_prime_here"] (ao gZ):=dB (by decide +kernel)
variable {P:Program}{w:World}{K:PySem.W.Frag}{mg:Str->Option Value}{base:Heap}
theorem rO {f fl:Addr}{fd fdl:FuncData}(F:Fun K "_law_times" "_law_times" qb f fd)(FL:FnOk P w K mg base (bh P w) 2 fl fdl ["_law_prime_here","_law_top","_law_bottom"] spMake)(bL:L2.ay K fdl ["_law_prime_here","_law_top","_law_bottom"] [])(mL:mg "_law_make"=some (.ref fl))(kL:keepIn K (.ref fl)=true):
 FnOk P w K mg base (bh P w) 3 f fd ["_law_prime_here","_law_one","_law_other"] (ij kr):=by
 refine F.okN vq (fun vs H Q E h=>?_) (fun cdv A outer s H vs Q E hr h=>?_)
 ·obtain ⟨p,t1,b1,t2,b2,x1,x2,rfl,_⟩:=h
  rfl
 ·obtain ⟨p,t1,b1,t2,b2,x1,x2,rfl,hp,h1,h2,B1,B2,B3,B4,n1,n2,hb,q⟩:=h
  refine ⟨_,aq (az (av FL hr (by rfl) mL kL bL .nil ae (aj (pv 0) (aj (aD cY (aK aS (pv 1) ah (fun _ _=>rfl)) (aK aS (pv 2) ah (fun _ _=>rfl))) (aj (aD cY (aK aS (pv 1) ah (fun _ _=>rfl)) (aK aS (pv 2) ah (fun _ _=>rfl))) af))))),?_⟩
  refine ⟨_,rfl,?_⟩
  refine ⟨_,rfl,x1,_,0,_,rfl,rfl,bg.of h1,a0 _ _,_,rfl,x2,_,0,_,rfl,rfl,bg.of h2,a0 _ _,_,_,rfl,rfl,⟨B1.mono (by decide),B3.mono (by decide)⟩,?_⟩
  refine ⟨_,rfl,x1,_,1,_,rfl,rfl,bg.of h1,a1 _ _,_,rfl,x2,_,1,_,rfl,rfl,bg.of h2,a1 _ _,_,_,rfl,rfl,⟨B2.mono (by decide),B4.mono (by decide)⟩,?_⟩
  exact ⟨p,_,_,rfl,hp,pI n1 n2,(B2.mul B4).mono (by decide),(B1.mul B3).mono (by decide),hb,q⟩
theorem qY {f ft fn:Addr}{fd fdt fdn:FuncData}(F:Fun K "_law_terms" "_law_terms" gZ f fd)(m_range:mg "range"=none)(m_sorted:mg "sorted"=none)(m_set:mg "set"=none)(m_tuple:mg "tuple"=none)
 (FT:FnOk P w K mg base (bh P w) 1 ft fdt ["_law_room_here","_law_many"] spTake)(bT:L2.ay K fdt ["_law_room_here","_law_many"] [])(mT:mg "_law_take"=some (.ref ft))(kT:keepIn K (.ref ft)=true)
 (FN:FnOk P w K mg base (bh P w) 2 fn fdn ["_law_room_here","_law_prime_here"] spNumber)(bN:L2.ay K fdn ["_law_room_here","_law_prime_here"] [])(mN:mg "_law_number"=some (.ref fn))(kN:keepIn K (.ref fn)=true):
 FnOk P w K mg base (bh P w) 3 f fd ["_law_room_here","_law_prime_here"] spLTerms:=by
 refine F.okN dZ (fun vs H Q E h=>?_) (fun cdv A outer s H vs Q E hr h=>?_)
 ·obtain ⟨r,p,rfl,_⟩:=h
  rfl
 ·obtain ⟨r,p,rfl,hR,hp,q⟩:=h
  have hr2:Room 2 _:=hr.mono (by decide)
  have hr1:Room 1 _:=hr.mono (by decide)
  refine ⟨_,(ai (@aJ _ _ 2 _ _ _ _ dZ.nd rfl (Or.inl rfl) (oX rfl (dG (N:=["_law_k","_law_room_here"]) (nl:=1) (js:=[0]) (osc:=ao gZ) ⟨rfl,rfl,by decide +kernel,by decide +kernel,by decide +kernel,rfl,(.cons ⟨rfl,by decide +kernel⟩ .nil),by decide +kernel⟩ rfl
   (eA (by rfl) m_range (@aj _ _ _ _ _ ah af rfl))
   (fun C fp s H=>aG (i:=0) (by show (["_law_k","_law_room_here"]:List Str).Nodup; decide +kernel) rfl (Or.inl rfl) (Or.inr rfl))
   (fun C fp s H=>dE)
   (fun C fp s H=>(av FT hr1 (by rfl) mT kT bT .nil ae (@aj _ _ _ _ _ (pv 1) (@aj _ _ _ _ _ ah af rfl) rfl)))) rfl (by rfl) m_sorted (by rfl) m_set) rfl (Or.inl rfl))
   (ai (@aJ _ _ 3 _ _ _ _ dZ.nd rfl (Or.inl rfl) (@bf _ _ _ _ af) rfl (Or.inl rfl))
   (ai (dS PassesOwn.never rfl (eA (by rfl) m_range (@aj _ _ _ _ _ (av FT hr1 (by rfl) mT kT bT .nil ae (@aj _ _ _ _ _ (pv 0) (@aj _ _ _ _ _ ah af rfl) rfl)) af rfl)) (aG (i:=4) dZ.nd rfl (Or.inl rfl))
   (ai (@aJ _ _ 5 _ _ _ _ dZ.nd rfl (Or.inl rfl) (aQ jG (by rfl) m_tuple (by rfl) (@aj _ _ _ _ _ (dG (N:=["_law_place","_law_room_here"]) (nl:=1) (js:=[0]) (osc:=ao gZ) ⟨rfl,rfl,by decide +kernel,by decide +kernel,by decide +kernel,rfl,(.cons ⟨rfl,by decide +kernel⟩ .nil),by decide +kernel⟩ rfl
    (cW (pv 2))
    (fun C fp s H=>aG (i:=0) (by show (["_law_place","_law_room_here"]:List Str).Nodup; decide +kernel) rfl (Or.inl rfl) (Or.inr rfl))
    (fun C fp s H=>(hX (@aE _ _ _ _ _ _ _ _ cx (av FT hr1 (by rfl) mT kT bT .nil ae (@aj _ _ _ _ _ (pv 1) (@aj _ _ _ _ _ ah af rfl) rfl)) ah (ax _))))
    (fun C fp s H=>(pv 0))) af rfl)) rfl (Or.inl rfl))
   (aq (fP (eJ PySem.F.plainAttrs_list PySem.F.slot_list_append PySem.F.type_list_append de (pv 3) (@aj _ _ _ _ _ (@bK _ _ _ _ _ (@aj _ _ _ _ _ (pv 5) (@aj _ _ _ _ _ (av FN hr2 (by rfl) mN kN bN .nil ae (@aj _ _ _ _ _ (pv 0) (@aj _ _ _ _ _ (pv 1) af rfl) rfl)) af rfl) rfl)) af rfl))))))
   (aq (az (pv 3)))))),?_⟩
  refine ⟨6,rfl,by decide,by decide,?_⟩
  refine nj (n:=6) (fun i us H'=>(∃ ks:List Int,us=ks.map V.int∧ks.length=i∧∀ k∈ks,0≤k∧k < 60)∧a9 H' r∧SameBut r H H') ⟨⟨[],rfl,rfl,fun k h=>nomatch h⟩,hR,fun _ _ e _=>e⟩ (fun i us H' hi h=>?_) (fun i us H' N hi h k=>?_) (fun us H1 h=>?_)
  ·obtain ⟨⟨ks,rfl,hk,_⟩,_⟩:=h
   rw [List.length_map,hk]
   exact Nat.lt_of_le_of_lt hi (by decide)
  ·obtain ⟨⟨ks,rfl,hk,hks⟩,R1,sb1⟩:=h
   refine xq ⟨_,rfl,?_⟩
   obtain ⟨lq1,xq1,hq1,yq1,zq1⟩:=id R1
   refine ⟨_,lq1,xq1,60,rfl,hq1,yq1,zq1,by decide,by decide,fun z lp1 xp1 z0 z1 yp1 zp1=>?_⟩
   have R2:a9 (upd H' r (.lst [.int lp1,.int xp1])) r:=⟨lp1,xp1,ag,yp1,zp1⟩
   have sb2:SameBut r H' (upd H' r (.lst [.int lp1,.int xp1])):=SameBut.upd
   generalize upd H' r (.lst [.int lp1,.int xp1])=H2 at R2 sb2 ⊢
   refine k _ _ ⟨⟨ks++[z],by simp,by simp [hk],fun k h=>?_⟩,R2,sb1.trans sb2⟩
   rcases List.mem_append.mp h with h | h
   ·exact hks k h
   ·have:k=z:=by simpa using h
    subst this
    exact ⟨z0,z1⟩
  obtain ⟨⟨ks,rfl,hk,hks⟩,R1,sb1⟩:=h
  intro D hD
  refine ⟨D,ks,rfl,.inl (a7.of ag),by omega,fun S ms hS pwm memm=>?_⟩
  have nD:=R1.ne hD
  have s2:=(ak (o:=.lst (ks.map V.int)) hD).trans (ak (o:=.lst (ms.map V.int)) hS)
  have hS2:upd (upd H1 D (.lst (ks.map V.int))) S (.lst (ms.map V.int)) S=some (.lst (ms.map V.int)):=ag
  have nS:S≠r:=(R1.same (ak hD)).ne hS
  have hms:∀ k∈ms,0≤k∧k < 60:=fun k h=>hks k ((memm k).mp h)
  have hm:ms.length≤60:=by have:=jr (lo:=0) pwm hms (by decide); omega
  have R2:=R1.same s2
  have sb2:SameBut r H _:=sb1.trans (SameBut.of s2)
  generalize upd (upd H1 D _) S _=H2 at s2 hS2 R2 sb2 ⊢
  clear hS hD R1 sb1
  refine ⟨Nat.zero_le _,fun L hL=>?_⟩
  have nL:=R2.ne hL
  have hL0:=jN sb2 nL hL
  have s3:=ak (o:=.lst []) hL
  have eL:upd H2 L (.lst []) L=some (.lst []):=ag
  have nSL:S≠L:=au hS2 hL
  have hS3:=s3 _ _ hS2
  have R3:=R2.same s3
  have sb3:SameBut r H _:=sb2.trans (SameBut.of s3)
  generalize upd H2 L _=H3 at s3 eL hS3 R3 sb3 ⊢
  refine ⟨_,rfl,?_⟩
  obtain ⟨lq2,xq2,hq2,yq2,zq2⟩:=id R3
  refine ⟨_,lq2,xq2,7,rfl,hq2,yq2,zq2,by decide,by decide,fun z lp2 xp2 z0 z1 yp2 zp2=>?_⟩
  have R4:a9 (upd H3 r (.lst [.int lp2,.int xp2])) r:=⟨lp2,xp2,ag,yp2,zp2⟩
  have sb4:SameBut r H3 (upd H3 r (.lst [.int lp2,.int xp2])):=SameBut.upd
  generalize upd H3 r (.lst [.int lp2,.int xp2])=H4 at R4 sb4 ⊢
  have eL4:=sb4 _ _ eL nL
  have hS4:=sb4 _ _ hS3 nS
  have sb04:=sb3.trans sb4
  refine ⟨z,rfl,by omega,by omega,?_⟩
  refine ⟨fun i m σ' H'=>m=z.toNat - i∧i≤z.toNat∧a9 H' r∧SameBut r H H'∧H' S=some (.lst (ms.map V.int))∧(∃ ys ts,H' L=some (.lst ys)∧aZ H' ys ts∧ts.length=i∧∀ t∈ts,qV p 45 t)∧∃ o4 o5,σ'=[some (.ref r),some (.int p),some (.ref S),some (.ref L),o4,o5],
   ⟨z.toNat,by simp,Nat.zero_le _,R4,sb04,hS4,⟨[],[],eL4,.nil,rfl,fun t h=>(nomatch h)⟩,none,none,rfl⟩,?_⟩
  clear hS2 hS3 hS4 eL eL4 R2 R3 R4 sb2 sb3 sb4 sb04 s2 s3
  rintro i m σ' H' ⟨rfl,hi,hR',sb',hS',⟨ys,ts,eD,ht,tl,tg⟩,o4,o5,rfl⟩
  by_cases hlt:i < z.toNat
  ·refine .inr ⟨hlt,fun σ' H'=>a9 H' r∧SameBut r H H'∧H' S=some (.lst (ms.map V.int))∧(∃ ys ts,H' L=some (.lst ys)∧aZ H' ys ts∧ts.length=i + 1∧∀ t∈ts,qV p 45 t)∧∃ o4 o5,σ'=[some (.ref r),some (.int p),some (.ref S),some (.ref L),o4,o5],?_,fun y H2 hy=>?_⟩
   ·rintro σ' H' ⟨h1,h2,h3,h4⟩
    exact ⟨z.toNat - (i + 1),by omega,rfl,hlt,h1,h2,h3,h4⟩
   ·obtain ⟨rfl,rfl⟩:=hy
    refine ⟨_,rfl,S,rfl,⟨_,a7.of hS'⟩,?_⟩
    refine ma (xs:=ms.map V.int) (fun i us H'=>(∃ ks:List Int,us=ks.map V.int∧ks.Sublist (ms.take i))∧a9 H' r∧SameBut r H2 H') ⟨⟨[],rfl,by simp⟩,hR',fun _ _ e _=>e⟩ (fun i us H' hi h=>?_) (fun i y us H' N hi hy h k=>?_) (fun us H5 h=>?_)
    ·obtain ⟨⟨ks,rfl,hk⟩,R1,sb1⟩:=h
     rw [List.length_map]
     have:=hk.length_le
     rw [List.length_take] at this
     exact ⟨Nat.lt_of_le_of_lt (show ks.length≤60 by omega) (by decide),a7.of (sb1 _ _ hS' nS)⟩
    ·obtain ⟨⟨ks,rfl,hk⟩,R1,sb1⟩:=h
     rw [List.getElem?_map] at hy
     obtain ⟨x,hx,rfl⟩:=Option.map_eq_some_iff.mp hy
     rw [List.length_map] at hi
     have et:ms.take (i + 1)=ms.take i++[x]:=by rw [List.take_add_one,hx]; rfl
     refine ⟨_,rfl,?_⟩
     obtain ⟨lq3,xq3,hq3,yq3,zq3⟩:=id R1
     refine ⟨_,lq3,xq3,2,rfl,hq3,yq3,zq3,by decide,by decide,fun u lp3 xp3 u0 u1 yp3 zp3=>?_⟩
     have R6:a9 (upd H' r (.lst [.int lp3,.int xp3])) r:=⟨lp3,xp3,ag,yp3,zp3⟩
     have sb6:SameBut r H' (upd H' r (.lst [.int lp3,.int xp3])):=SameBut.upd
     generalize upd H' r (.lst [.int lp3,.int xp3])=H6 at R6 sb6 ⊢
     refine ⟨rfl,_,rfl,?_⟩
     refine bF (fun h=>?_) (fun h=>?_)
     ·refine ⟨_,rfl,k _ _ ⟨⟨ks++[x],by simp,?_⟩,R6,sb1.trans sb6⟩⟩
      rw [et]
      exact hk.append (List.Sublist.refl _)
     ·refine k _ _ ⟨⟨ks,rfl,?_⟩,R6,sb1.trans sb6⟩
      rw [et]
      exact hk.trans (List.sublist_append_left _ _)
    obtain ⟨⟨ks,rfl,hk⟩,R5,sb5⟩:=h
    rw [List.length_map,List.take_length] at hk
    have hks:∀ k∈ks,0≤k∧k < 60:=fun k h=>hms k (hk.mem h)
    have pwk:=pwm.sublist hk
    intro D3 hD3
    refine ⟨D3,_,rfl,.inl ⟨a7.of ag,fun a ha=>?_⟩⟩
    have s6:=(ak (o:=.lst (ks.map V.int)) hD3).trans (ak (o:=.tup (ks.map V.int)) ha)
    have ea:upd (upd H5 D3 (.lst (ks.map V.int))) a (.tup (ks.map V.int)) a=some (.tup (ks.map V.int)):=ag
    generalize upd (upd H5 D3 _) a _=H6 at s6 ea ⊢
    have sb6:SameBut r H2 H6:=sb5.trans (SameBut.of s6)
    have R6:=R5.same s6
    have eL6:=sb6 _ _ eD nL
    have k6:=hR'.keepT sb6
    clear hD3 ha s6 R5 sb5
    refine ⟨_,rfl,.inl ⟨rfl,_,a7.of eL6⟩,_,rfl,_,rfl,_,rfl,r,p,rfl,hp,R6,fun an tt bb H7 hnum B1 B2 hn7 R7 sb7=>?_⟩
    have k7:=R6.keepT sb7
    refine ⟨f9,fun tu htu=>?_⟩
    have eL7:=sb7 _ _ eL6 nL
    have sU:aA H7 (upd H7 tu (.tup [.ref a,.ref an])):=ak htu
    have eL8:=sU _ _ eL7
    refine ⟨L,ys,.ref tu,rfl,rfl,eL8,?_,?_⟩
    ·rw [ht.length]
     exact Nat.lt_of_le_of_lt (show ts.length≤60 by omega) (by decide)
    have kD:aB (upd H7 tu (.tup [.ref a,.ref an])) (upd (upd H7 tu (.tup [.ref a,.ref an])) L (.lst (ys++[.ref tu]))):=aB.upd fun xs z=>by rw [eL8] at z; cases z
    have kA:aB H2 (upd (upd H7 tu (.tup [.ref a,.ref an])) L (.lst (ys++[.ref tu]))):=(k6.trans k7).trans ((aB.of sU).trans kD)
    obtain ⟨l9,x9,e9,f0,f1⟩:=R7
    have hS9:upd (upd H7 tu (.tup [.ref a,.ref an])) L (.lst (ys++[.ref tu])) S=some (.lst (ms.map V.int)):=by
     rw [ar nSL]
     exact sU _ _ (sb7 _ _ (sb6 _ _ hS' nS) nS)
    refine ⟨⟨l9,x9,by rw [ar (Ne.symm nL)]; exact sU _ _ e9,f0,f1⟩,fun b u e nb=>?_,hS9,⟨_,ts++[(ks,tt,bb)],ag,Paired.snoc (aZ.keep ht kA) ⟨tu,a,an,rfl,kD _ _ ag,kD _ _ (sU _ _ (k7 _ _ ea)),kD _ _ (sU _ _ hn7)⟩,by simp [tl],fun t h=>?_⟩,_,_,rfl⟩
    ·have nb2:b≠L:=au e hL0
     rw [ar nb2]
     exact sU _ _ (sb7 _ _ (sb6 _ _ (sb' _ _ e nb) nb) nb)
    ·rcases List.mem_append.mp h with h | h
     ·exact tg t h
     ·have:t=(ks,tt,bb):=by simpa using h
      subst this
      refine ⟨⟨hnum,B1,B2⟩,pwk,hks,?_⟩
      have:=jr (lo:=0) pwk hks (by decide)
      show ks.length≤60
      omega
  ·have ei:i=z.toNat:=by omega
   refine .inl ⟨by show z.toNat≤i; omega,?_⟩
   exact ⟨_,rfl,q L ys ts H' hL0 eD ht (by omega) tg hR' sb'⟩
abbrev Bp:Stmt:=(aY 45)
theorem yp {n:Nat}(h:dg n=['1']):n=1:=by
 by_cases hn:n < 10
 ·rw [da hn] at h
  have:∀ m:Nat,m < 10->[m.digitChar]=['1']->m=1:=by decide
  exact this n hn h
 ·have e:=cut 1 n (Nat.le_refl 1) (by omega)
  have l1:=congrArg List.length (h.symm.trans e)
  have l2:0 < (dg (n / 10 ^ 1)).length:=List.length_pos_iff.mpr (qK _)
  have l3:0 < (ua 1 (n % 10 ^ 1)).length:=by
   unfold ua
   rw [List.length_append]
   have:=List.length_pos_iff.mpr (qK (n % 10 ^ 1))
   omega
  rw [List.length_append,show (['1']:List Char).length=1 from rfl] at l1
  omega
theorem oq (n:Nat):1≤(tx n).length:=by
 rw [pH]
 exact List.length_pos_iff.mpr (qK n)
theorem toNat_inj:∀ {a b:List Char},a.map Char.toNat=b.map Char.toNat->a=b
 | [],[],_=>rfl
 | [],_ :: _,h=>nomatch h
 | _ :: _,[],h=>nomatch h
 | x :: a,y :: b,h=>by
   rw [List.map_cons,List.map_cons] at h
   obtain ⟨h1,h2⟩:=List.cons.inj h
   rw [toNat_inj h2,Char.toNat_inj.mp h1]
theorem y4 (n:Nat):tx n=Str.ofString "1" ↔ n=1:=by
 have e1:Str.ofString "1"=tx 1:=(fV 1).symm ▸ (by decide +kernel)
 constructor
 ·intro h
  rw [e1] at h
  unfold tx at h
  injection h with h
  have h2:=congrArg Array.toList h
  simp only [List.toList_toArray] at h2
  have h3:=toNat_inj h2
  exact yp (h3.trans (da (d:=1) (by decide)))
 ·intro h
  rw [h,e1]
theorem uj {t b:Int}:uT t b=Str.ofString "1" ↔ t.natAbs=1∧b=1:=by
 unfold uT
 by_cases hb:b=1
 ·rw [if_pos hb,y4]
  exact ⟨fun h=>⟨h,hb⟩,fun h=>h.1⟩
 ·rw [if_neg hb]
  refine ⟨fun h=>?_,fun h=>absurd h.2 hb⟩
  have l:=congrArg Str.length h
  rw [Str.length_append,Str.length_append,show (Str.ofString "1").length=1 from by decide +kernel,show (Str.ofString "/").length=1 from by decide +kernel] at l
  have:=oq t.natAbs
  omega
theorem ni (sep u:Str)(us:List Str)(h:1≤u.length):1≤(Str.join sep (u :: us)).length:=by
 cases us with
 | nil=>exact h
 | cons v us =>
   show 1≤(u++sep++Str.join sep (v :: us)).length
   rw [Str.length_append,Str.length_append]
   omega
theorem yl (k:Int):1≤(nm k).length:=by
 unfold nm
 rw [Str.length_append]
 have:=oq k.natAbs
 omega
theorem yG (t b:Int):1≤(uT t b).length:=by
 unfold uT
 have:=oq t.natAbs
 split
 ·exact this
 ·rw [Str.length_append]
  omega
theorem yD (t:Tm):1≤(tT t).length:=by
 unfold tT fT
 split
 ·exact ni _ _ _ (yG _ _)
 ·rename_i h
  obtain ⟨ks,n⟩:=t
  cases ks with
  | nil=>exact absurd (.inl rfl) h
  | cons k ks=>exact ni _ _ _ (yl k)
def n6:List Tm->Str
 | []=>Str.ofString ""
 | t :: ts=>sC (t :: ts)
theorem vQ (ts:List Tm)(t:Tm):n6 (ts++[t])=n6 ts++(if ts=[] then gR t else gS t)++tT t:=by
 cases ts with
 | nil =>
   show gR t++(tT t++Str.empty)=Str.ofString ""++gR t++tT t
   rw [uM,jY,iD]
 | cons u us =>
   rw [if_neg (by simp)]
   show gR u++(tT u++jy (eW (us++[t])))=gR u++(tT u++jy (eW us))++gS t++tT t
   have e:eW (us++[t])=eW us++[gS t,tT t]:=by simp [eW]
   rw [e,iK]
   show gR u++(tT u++(jy (eW us)++(gS t++(tT t++Str.empty))))=_
   rw [jY]
   simp only [gY]
theorem oY {ts:List Tm}:n6 ts=Str.ofString "" ↔ ts=[]:=by
 cases ts with
 | nil=>exact ⟨fun _=>rfl,fun _=>rfl⟩
 | cons t ts =>
   refine ⟨fun h=>?_,fun h=>nomatch h⟩
   have l:=congrArg Str.length h
   have l2:(n6 (t :: ts)).length=(gR t).length + ((tT t).length + (jy (eW ts)).length):=by
    show (gR t++(tT t++jy (eW ts))).length=_
    rw [Str.length_append,Str.length_append]
   rw [l2,show (Str.ofString "").length=0 from by decide +kernel] at l
   have:=yD t
   omega
theorem wo {ts:List Tm}(h64:ts.length < 64)(wr:∀ t∈ts,Wr t):(n6 ts).length≤2000000:=by
 cases ts with
 | nil=>decide +kernel
 | cons t ts=>exact kE h64 wr
def spLW:Sp:=fun vs H Q _=>∃ (D:Addr)(zs:List V)(ts:List Tm),vs=[.ref D]∧H D=some (.lst zs)∧aZ H zs ts∧ts.length < 64∧(∀ t∈ts,Wr t)∧∀ H',aA H H'->Q (.str (sC ts)) H'
theorem ku:FnScope ["_law_terms_here","_law_text","_law_product","_law_number_here","_law_size","_law_parts","_law_sign"] ["_law_terms_here"] (ao Bp):=dB (by decide +kernel)
theorem jR {K:Frag}{a b:V}{c:Bool}:pA [a,b] (if c then 1 else 0)=some (if c then b else a):=by cases c <;> rfl
theorem BX {t:TS}{D:Ends}{σ:St}{H:Hp}(R:St->Hp->Prop)(h:∀ D':Ends,(∀ σ' H',R σ' H'->D'.nx σ' H')->t D' σ H)(fin:∀ σ' H',R σ' H'->D.nx σ' H'):t D σ H:=h D fin
set_option maxHeartbeats 1000000 in
theorem mO {f:Addr}{fd:FuncData}(F:Fun K "_law_written" "_law_written" Bp f fd)(m_abs:mg "abs"=none)(m_str:mg "str"=none)(m_int:mg "int"=none):
 FnOk P w K mg base (bh P w) 1 f fd ["_law_terms_here"] spLW:=by
 refine F.okN ku (fun vs H Q E h=>?_) (fun cdv A outer s H vs Q E hr h=>?_)
 ·obtain ⟨D,zs,ts,rfl,_⟩:=h
  rfl
 ·obtain ⟨D,zs,ts,rfl,hD,ht,h64,wr,q⟩:=h
  refine ⟨_,(ai (@aJ _ _ 1 _ _ _ _ ku.nd rfl (Or.inl rfl) aU rfl (Or.inl rfl))
   (ai (dS PassesOwn.never rfl (cW (pv 0)) (cH rfl (aN (aG (i:=2) ku.nd rfl (Or.inl rfl)) (aN (aG (i:=3) ku.nd rfl (Or.inl rfl)) b7)))
   (ai (@aJ _ _ 4 _ _ _ _ ku.nd rfl (Or.inl rfl) (@aD _ _ _ _ _ _ _ _ bz (aQ bU (by rfl) m_str (by rfl) (@aj _ _ _ _ _ (aH cN (by rfl) m_abs (by rfl) (@aj _ _ _ _ _ (@aK _ _ _ _ _ _ _ aS (pv 3) ah (fun _ _=>rfl)) af rfl)) af rfl)) (@aK _ _ _ _ _ _ _ bc (@bf _ _ _ _ (@aj _ _ _ _ _ aU (@aj _ _ _ _ _ (@aD _ _ _ _ _ _ _ _ bz aU (aQ bU (by rfl) m_str (by rfl) (@aj _ _ _ _ _ (@aK _ _ _ _ _ _ _ aS (pv 3) ah (fun _ _=>rfl)) af rfl))) af rfl) rfl)) (aQ cK (by rfl) m_int (by rfl) (@aj _ _ _ _ _ (@bp _ _ _ _ _ _ _ _ pY (@aK _ _ _ _ _ _ _ aS (pv 3) ah (fun _ _=>rfl)) ah (ax _)) af rfl)) (fun _ _=>rfl))) rfl (Or.inl rfl))
   (ai (g9 (i:=5) (N:=["_law_place"]) (nl:=1) (js:=[]) (osc:=ao Bp) ⟨rfl,rfl,by decide +kernel,by decide +kernel,by decide +kernel,rfl,.nil,by decide +kernel⟩ rfl ku.nd rfl (Or.inl rfl)
    (pL (pv 2))
    (fun C fp s H=>aG (i:=0) (by show (["_law_place"]:List Str).Nodup; decide +kernel) rfl (Or.inl rfl) (Or.inr rfl))
    (fun C fp s H=>dE)
    (fun C fp s H=>(@aD _ _ _ _ _ _ _ _ bz aU (aQ bU (by rfl) m_str (by rfl) (@aj _ _ _ _ _ (pv 0) af rfl)))) (by rfl))
   (ai (bt (PW.pt (dh (@aE _ _ _ _ _ _ _ _ (vE hr) (pv 5) (@bf _ _ _ _ af) (ax _)) (cL (@aE _ _ _ _ _ _ _ _ dw (pv 4) aU (ax _))))) (aq (@aJ _ _ 5 _ _ _ _ ku.nd rfl (Or.inl rfl) (@aD _ _ _ _ _ _ _ _ ky (@bf _ _ _ _ (@aj _ _ _ _ _ (pv 4) af rfl)) (pv 5)) rfl (Or.inl rfl))) aO)
   (ai (@aJ _ _ 6 _ _ _ _ ku.nd rfl (Or.inl rfl) (@aK _ _ _ _ _ _ _ bc (@aK _ _ _ _ _ _ _ bc (@bf _ _ _ _ (@aj _ _ _ _ _ (@bf _ _ _ _ (@aj _ _ _ _ _ aU (@aj _ _ _ _ _ aU af rfl) rfl)) (@aj _ _ _ _ _ (@bf _ _ _ _ (@aj _ _ _ _ _ aU (@aj _ _ _ _ _ aU af rfl) rfl)) af rfl) rfl)) (aQ cK (by rfl) m_int (by rfl) (@aj _ _ _ _ _ (@bp _ _ _ _ _ _ _ _ dw (pv 1) aU (ax _)) af rfl)) (fun _ _=>rfl)) (aQ cK (by rfl) m_int (by rfl) (@aj _ _ _ _ _ (@bp _ _ _ _ _ _ _ _ gO (@aK _ _ _ _ _ _ _ aS (pv 3) ah (fun _ _=>rfl)) ah (ax _)) af rfl)) (fun _ _=>rfl)) rfl (Or.inl rfl))
   (aq (@aJ _ _ 1 _ _ _ _ ku.nd rfl (Or.inl rfl) (@aD _ _ _ _ _ _ _ _ bz (@aD _ _ _ _ _ _ _ _ bz (pv 1) (pv 6)) (eJ PySem.F.plainAttrs_str PySem.F.slot_str_join PySem.F.type_str_join hV aU (@aj _ _ _ _ _ (pv 5) af rfl))) rfl (Or.inl rfl))))))))
   (aq (az (@aK _ _ _ _ _ _ _ bc (@bf _ _ _ _ (@aj _ _ _ _ _ (pv 1) (@aj _ _ _ _ _ aU af rfl) rfl)) (aQ cK (by rfl) m_int (by rfl) (@aj _ _ _ _ _ (@bp _ _ _ _ _ _ _ _ cx (pv 1) aU (ax _)) af rfl)) (fun _ _=>rfl)))))),?_⟩
  have zl:=ht.length
  refine ⟨_,rfl,D,rfl,⟨_,a7.of hD⟩,?_⟩
  refine ic (K:=K) (a:=D) (xs:=zs) (fun j σ H'=>aA H H'∧∃ o2 o3 o4 o5 o6,σ=[some (.ref D),some (.str (n6 (ts.take j))),o2,o3,o4,o5,o6]) ⟨aA.refl _,_,_,_,_,_,rfl⟩ (fun j σ H' _ h=>a7.of (h.1 _ _ hD)) ?_ ?_
  ·rintro j y σ H' hy ⟨sj,o2,o3,o4,o5,o6,rfl⟩
   obtain ⟨⟨ks,t,b⟩,et,at_,pr,nu,rfl,hat,hpr,hnu⟩:=bH ht hy
   refine ⟨at_,_,rfl,bg.of (sj _ _ hat),rfl,_,_,rfl,_,_,rfl,rfl,?_⟩
   have tm:=List.mem_of_getElem? et
   have hw:=wr _ tm
   have hw1:Wt t.natAbs:=hw.w1
   have hw2:Wt b.natAbs:=hw.w2
   have hb1:1≤b:=hw.b1
   have hk:∀ k∈ks,0≤k∧k < 60:=hw.k
   have hkl:ks.length≤60:=hw.l
   have hnu:H nu=some (bA t b):=hnu
   have hpr:H pr=some (.tup (ks.map V.int)):=hpr
   have hj:j < ts.length:=(List.getElem?_eq_some_iff.mp et).1
   have esn:ts.take (j + 1)=ts.take j++[(ks,t,b)]:=by rw [List.take_add_one,et]; rfl
   have eb:(b:Int)=((b.natAbs:Nat):Int):=by omega
   have l1:=hw1.len
   have l2:=hw2.len
   refine ⟨_,rfl,nu,_,0,_,rfl,rfl,bg.of (sj _ _ hnu),rfl,t,rfl,?_⟩
   rw [lB]
   refine ⟨_,rfl,hw1.log,?_⟩
   rw [fV]
   refine ⟨_,rfl,nu,_,1,_,rfl,rfl,bg.of (sj _ _ hnu),rfl,b,rfl,hw2.log,?_⟩
   rw [show Str.ofString (toString b)=tx b.natAbs from by rw [eb,fV]; rfl]
   refine ⟨_,_,rfl,rfl,(by have:(Str.ofString "/").length=1:=by decide +kernel
                           exact Nat.le_trans (show _≤20000 by omega) (by decide)),f9,fun p hp=>?_⟩
   have r1:=ak (o:=.lst [.str (Str.ofString ""),.str (Str.ofString "/"++tx b.natAbs)]) hp
   have e1:upd H' p (.lst [.str (Str.ofString ""),.str (Str.ofString "/"++tx b.natAbs)]) p=some (.lst [.str (Str.ofString ""),.str (Str.ofString "/"++tx b.natAbs)]):=ag
   generalize upd H' p _=H1 at r1 e1 ⊢
   have s1:=sj.trans r1
   clear r1 hp
   refine ⟨_,rfl,nu,_,1,_,rfl,rfl,bg.of (s1 _ _ hnu),rfl,_,_,rfl,rfl,.inr ⟨_,rfl,p,_,_,_,rfl,rfl,a7.of e1,jR (K:=K),?_⟩⟩
   have ef:(if decide (1 < b)=true then V.str (Str.ofString "/"++tx b.natAbs) else V.str (Str.ofString "")) = .str (if b=1 then Str.ofString "" else Str.ofString "/"++tx b.natAbs):=by
    by_cases hb:b=1
    ·rw [if_pos hb,decide_eq_false (by omega)]; rfl
    ·rw [if_neg hb,decide_eq_true (by omega)]; rfl
   rw [ef]
   clear ef
   have esz:tx t.natAbs++(if b=1 then Str.ofString "" else Str.ofString "/"++tx b.natAbs)=uT t b:=by
    unfold uT
    by_cases hb:b=1
    ·rw [if_pos hb,if_pos hb,uM,jY]
    ·rw [if_neg hb,if_neg hb]
   refine ⟨_,_,rfl,rfl,?_,?_⟩
   ·refine Nat.le_trans (show _≤20000 from ?_) (by decide)
    rw [← Str.length_append,esz]
    exact Nat.le_trans (tU (t:=(ks,t,b)) hw) (by decide)
   rw [esz]
   refine ⟨_,rfl,pr,rfl,⟨_,bg.of (s1 _ _ hpr)⟩,?_⟩
   refine lU (xs:=ks.map V.int) (fun i us H'=>H1=H'∧us=((ks.take i).map nm).map V.str) ⟨rfl,rfl⟩ (fun i us H' hi h=>?_) (fun i y us H' N hi hy h k=>?_) (fun us H' h=>?_)
   ·obtain ⟨rfl,rfl⟩:=h
    exact ⟨Nat.lt_of_le_of_lt (show _≤60 by simp; omega) (by decide),bg.of (s1 _ _ hpr)⟩
   ·obtain ⟨rfl,rfl⟩:=h
    rw [List.getElem?_map] at hy
    obtain ⟨x,hx,rfl⟩:=Option.map_eq_some_iff.mp hy
    have e2:ks.take (i + 1)=ks.take i++[x]:=by rw [List.take_add_one,hx]; rfl
    have hx0:=hk x (List.mem_of_getElem? hx)
    have ex:x=((x.natAbs:Nat):Int):=by omega
    have lx:(tx x.natAbs).length≤60:=ki (by decide) (Nat.lt_of_lt_of_le (show x.natAbs < 60 by omega) (by decide))
    refine xq ⟨_,rfl,_,rfl,Nat.lt_of_lt_of_le (ie (k:=60) (by decide) (Nat.lt_of_lt_of_le (show x.natAbs < 60 by omega) (by decide))) (by decide),?_⟩
    rw [show Str.ofString (toString x)=tx x.natAbs from by rw [ex,fV]; rfl]
    refine ⟨_,_,rfl,rfl,(by have:(Str.ofString "x").length=1:=by decide +kernel
                            exact Nat.le_trans (show _≤20000 by omega) (by decide)),k _ _ ⟨rfl,?_⟩⟩
    rw [e2,List.map_append,List.map_append]
    rfl
   obtain ⟨rfl,rfl⟩:=h
   rw [List.length_map,List.take_length]
   intro L hL
   have r2:=ak (o:=.lst ((ks.map nm).map V.str)) hL
   have e2:upd H1 L (.lst ((ks.map nm).map V.str)) L=some (.lst ((ks.map nm).map V.str)):=ag
   generalize upd H1 L _=H2 at r2 e2 ⊢
   have s2:=s1.trans r2
   clear r2 hL e1
   have fsum:=pN hw
   dsimp only [cc,yL]
   refine BX (fun σ H3=>∃ L3,σ=[some (.ref D),some (.str (n6 (ts.take j))),some (.ref pr),some (.ref nu),some (.str (uT t b)),some (.ref L3),o6]∧aA H H3∧H3 L3=some (.lst ((fT (ks,t,b)).map V.str))) (fun D' fin=>?_) ?_
   ·have ahead:(ks=[]∨t.natAbs≠1∨b≠1)->∀ J,aA H2 J->(vj (n5 rCat (xw (cG (dJ 4) tNil)) (dJ 5)) (cc 5)) D' ([some (.ref D),some (.str (n6 (ts.take j))),some (.ref pr),some (.ref nu),some (.str (uT t b)),some (.ref L),o6]:St) J:=by
     intro c J sJ
     refine ⟨_,rfl,we,fun p hp=>?_⟩
     have r3:=ak (o:=.lst [.str (uT t b)]) hp
     have e3:upd J p (.lst [.str (uT t b)]) p=some (.lst [.str (uT t b)]):=ag
     generalize upd J p _=H3 at r3 e3 ⊢
     refine ⟨_,rfl,p,L,_,_,rfl,rfl,e3,r3 _ _ (sJ _ _ e2),Nat.le_trans (show _≤61 by simp; omega) (by decide),fun p2 hp2=>?_⟩
     refine fin _ _ ⟨p2,rfl,((s2.trans sJ).trans r3).trans (ak hp2),?_⟩
     rw [ag]
     unfold fT
     rw [if_pos c]
     rfl
    refine ⟨_,rfl,Nat.zero_le _,fun p hp=>?_⟩
    have r3:=ak (o:=.lst []) hp
    have e3:upd H2 p (.lst []) p=some (.lst []):=ag
    generalize upd H2 p _=H3 at r3 e3 ⊢
    refine ⟨L,p,_,rfl,rfl,a7.of (r3 _ _ e2),a7.of e3,_,rfl,?_⟩
    refine bF (fun h=>?_) (fun h=>?_)
    ·have hk0:ks=[]:=by simpa using h
     exact cf (ahead (.inl hk0) _ r3)
    have hk0:ks≠[]:=by simpa using h
    refine ⟨_,rfl,rfl,_,rfl,?_⟩
    refine bF (fun h=>?_) (fun h=>?_)
    ·refine ahead (.inr ?_) _ r3
     have c:uT t b≠Str.ofString "1":=by simpa using h
     by_cases c1:t.natAbs=1
     ·exact .inr fun c2=>c (uj.mpr ⟨c1,c2⟩)
     ·exact .inl c1
    have c:uT t b=Str.ofString "1":=by simpa using h
    obtain ⟨c1,c2⟩:=uj.mp c
    refine fin _ _ ⟨L,rfl,s2.trans r3,?_⟩
    rw [r3 _ _ e2]
    unfold fT
    rw [if_neg (fun c=>by
     rcases c with c | c | c
     ·exact hk0 c
     ·exact c c1
     ·exact c c2)]
   rintro σ H3 ⟨L3,rfl,s3,e3⟩
   clear e2 s2 s1
   dsimp only [yL]
   refine BX (fun σ H4=>σ=[some (.ref D),some (.str (n6 (ts.take j))),some (.ref pr),some (.ref nu),some (.str (uT t b)),some (.ref L3),some (.str (if ts.take j=[] then gR (ks,t,b) else gS (ks,t,b)))]∧aA H H4∧H4 L3=some (.lst ((fT (ks,t,b)).map V.str))) (fun D' fin=>?_) ?_
   ·refine ⟨f9,fun p hp=>?_⟩
    have r4:=ak (o:=.lst [.str (Str.ofString ""),.str (Str.ofString "-")]) hp
    have e4:upd H3 p (.lst [.str (Str.ofString ""),.str (Str.ofString "-")]) p=some (.lst [.str (Str.ofString ""),.str (Str.ofString "-")]):=ag
    generalize upd H3 p _=H4 at r4 e4 ⊢
    refine ⟨f9,fun p2 hp2=>?_⟩
    have r5:=ak (o:=.lst [.str (Str.ofString " + "),.str (Str.ofString " - ")]) hp2
    have e5:upd H4 p2 (.lst [.str (Str.ofString " + "),.str (Str.ofString " - ")]) p2=some (.lst [.str (Str.ofString " + "),.str (Str.ofString " - ")]):=ag
    generalize upd H4 p2 _=H5 at r5 e5 ⊢
    refine ⟨f9,fun p3 hp3=>?_⟩
    have r6:=ak (o:=.lst [.ref p,.ref p2]) hp3
    have e6:upd H5 p3 (.lst [.ref p,.ref p2]) p3=some (.lst [.ref p,.ref p2]):=ag
    generalize upd H5 p3 _=H6 at r6 e6 ⊢
    have r36:=(r4.trans r5).trans r6
    have fin':=fun v (hv:v=V.str (if ts.take j=[] then gR (ks,t,b) else gS (ks,t,b)))=>fin ([some (.ref D),some (.str (n6 (ts.take j))),some (.ref pr),some (.ref nu),some (.str (uT t b)),some (.ref L3),some v]) H6 ⟨by rw [hv],s3.trans r36,r36 _ _ e3⟩
    refine ⟨_,rfl,rfl,.inr ⟨_,rfl,p3,_,_,_,rfl,rfl,a7.of e6,jR (K:=K),?_⟩⟩
    have hc:(!decide (V.str (n6 (ts.take j))=V.str (Str.ofString ""))) = !decide (ts.take j=[]):=by
     congr 1
     exact decide_eq_decide.mpr ⟨fun h=>by injection h with h; exact oY.mp h,fun h=>by rw [oY.mpr h]⟩
    rw [hc]
    by_cases hj0:ts.take j=[]
    ·rw [decide_eq_true hj0]
     refine ⟨_,rfl,nu,_,0,_,rfl,rfl,bg.of (r36 _ _ (s3 _ _ hnu)),rfl,_,_,rfl,rfl,.inr ⟨_,rfl,p,_,_,_,rfl,rfl,a7.of (r6 _ _ (r5 _ _ e4)),jR (K:=K),fin' _ ?_⟩⟩
     rw [if_pos hj0]
     unfold gR
     by_cases n:t < 0
     ·rw [decide_eq_true n,if_pos n]; rfl
     ·rw [decide_eq_false n,if_neg n]; rfl
    ·rw [decide_eq_false hj0]
     refine ⟨_,rfl,nu,_,0,_,rfl,rfl,bg.of (r36 _ _ (s3 _ _ hnu)),rfl,_,_,rfl,rfl,.inr ⟨_,rfl,p2,_,_,_,rfl,rfl,a7.of (r6 _ _ e5),jR (K:=K),fin' _ ?_⟩⟩
     rw [if_neg hj0]
     unfold gS
     by_cases n:t < 0
     ·rw [decide_eq_true n,if_pos n]; rfl
     ·rw [decide_eq_false n,if_neg n]; rfl
   rintro σ H4 ⟨rfl,s4,e4⟩
   have wl:=wo (ts:=ts.take j) (by rw [List.length_take]; omega) (fun t h=>wr t (List.mem_of_mem_take h))
   have wl2:=iY hw
   have wl3:(if ts.take j=[] then gR (ks,t,b) else gS (ks,t,b)).length≤3:=by
    split
    ·unfold gR; split <;> decide +kernel
    ·unfold gS; split <;> decide +kernel
   refine ⟨_,rfl,_,rfl,_,_,rfl,rfl,Nat.le_trans (show _≤3000000 by omega) (by decide),rfl,_,rfl,_,L3,_,rfl,rfl,a7.of e4,?_,?_⟩
   ·rw [show (Str.ofString "*").length=1 from by decide +kernel]
    omega
   refine ⟨_,_,rfl,rfl,?_,?_⟩
   ·rw [Str.length_append]
    exact Nat.le_trans (show _≤3000000 by have:(Str.join (Str.ofString "*") (fT (ks,t,b))).length≤10000:=wl2; omega) (by decide)
   refine ⟨s4,some (.ref pr),some (.ref nu),some (.str (uT t b)),some (.ref L3),some (.str (if ts.take j=[] then gR (ks,t,b) else gS (ks,t,b))),?_⟩
   rw [esn,vQ]
   rfl
  ·rintro σ H' ⟨sj,o2,o3,o4,o5,o6,rfl⟩
   rw [zl,List.take_length]
   refine ⟨_,rfl,f9,fun p hp=>?_⟩
   have r3:=ak (o:=.lst [.str (n6 ts),.str (Str.ofString "0")]) hp
   have e3:upd H' p (.lst [.str (n6 ts),.str (Str.ofString "0")]) p=some (.lst [.str (n6 ts),.str (Str.ofString "0")]):=ag
   generalize upd H' p _=H3 at r3 e3 ⊢
   refine ⟨_,rfl,rfl,.inr ⟨_,rfl,p,_,_,_,rfl,rfl,a7.of e3,jR (K:=K),?_⟩⟩
   have ef:(if decide (V.str (n6 ts)=V.str (Str.ofString ""))=true then V.str (Str.ofString "0") else V.str (n6 ts)) = .str (sC ts):=by
    cases ts with
    | nil=>rw [decide_eq_true (by rfl)]; rfl
    | cons t ts =>
      rw [decide_eq_false (fun h=>by injection h with h; exact nomatch oY.mp h)]
      rfl
   rw [ef]
   exact q _ (sj.trans r3)
abbrev zN:Stmt:=(aY 46)
theorem Gn.one {p:Int}{n:Nat}{a:Int × Int}(h:Gn p n a)(z:p≠0):a.2=1:=(h.1.pr z).1
theorem Gn.mono {p:Int}{n m:Nat}{a:Int × Int}(h:Gn p n a)(k:n≤m):Gn p m a:=⟨h.1,h.2.1.mono k,h.2.2.mono k⟩
theorem qV.mono {p:Int}{n m:Nat}{t:Tm}(h:qV p n t)(k:n≤m):qV p m t:=⟨h.1.mono k,h.2⟩
def wj (p:Int)(a:Int × Int):Int × Int:=(eF p (kr (-1) 1 a.1 a.2) (1 * a.2),eE p (kr (-1) 1 a.1 a.2) (1 * a.2))
theorem rn {p:Int}{n:Nat}{a:Int × Int}(hp:FP p)(ha:Gn p n a)(h7:7≤n):Gn p (n + 1) (wj p a):=by
 have nz:1 * a.2≠0:=by rw [Int.one_mul]; exact ha.ne
 have h1:B (n + 1) (-1 * a.1):=by
  rw [show (-1:Int) * a.1 = -a.1 from by omega]
  exact B.mono (n:=n) (by unfold B; rw [Int.natAbs_neg]; exact ha.2.1) (by omega)
 refine ⟨Num.set hp.nn nz,uA hp h1 nz (by omega),vy (by rw [Int.one_mul]; exact ha.2.2.mono (by omega)) nz (by omega)⟩
def spLPt:Sp:=fun vs H Q _=>∃ (r l:Addr)(p:Int)(ys:List V)(ts:List Tm),vs=[.int p,.ref r,.ref l]∧a9 H r∧FP p∧H l=some (.lst ys)∧l≠r∧aZ H ys ts∧ts.length≤6∧(∀ t∈ts,qV p 45 t) ∧
 ∀ (D:Addr)(us:List V)(vs:List Tm)(H':Hp),H D=none->H' D=some (.lst us)->aZ H' us vs->vs.length≤12->(∀ t∈vs,qV p 92 t)->a9 H' r->SameBut r H H'->Q (.ref D) H'
theorem iQ:FnScope ["_law_prime_here","_law_room_here","_law_terms_here","_law_found","_law_product","_law_number_here","_law_share","_law_rest"] ["_law_prime_here","_law_room_here","_law_terms_here"] (ao zN):=dB (by decide +kernel)
set_option maxHeartbeats 1000000 in
theorem oK {f fn fp fm:Addr}{fd fdn fdp fdm:FuncData}(F:Fun K "_law_parted" "_law_parted" zN f fd)
 (FN:FnOk P w K mg base (bh P w) 2 fn fdn ["_law_room_here","_law_prime_here"] spNumber)(bN:L2.ay K fdn ["_law_room_here","_law_prime_here"] [])(mN:mg "_law_number"=some (.ref fn))(kN:keepIn K (.ref fn)=true)
 (FP':FnOk P w K mg base (bh P w) 3 fp fdp ["_law_prime_here","_law_one","_law_other"] (ij gK))(bP:L2.ay K fdp ["_law_prime_here","_law_one","_law_other"] [])(mP:mg "_law_plus"=some (.ref fp))(kP:keepIn K (.ref fp)=true)
 (FM:FnOk P w K mg base (bh P w) 3 fm fdm ["_law_prime_here","_law_one","_law_other"] (ij kr))(bM:L2.ay K fdm ["_law_prime_here","_law_one","_law_other"] [])(mM:mg "_law_times"=some (.ref fm))(kM:keepIn K (.ref fm)=true):
 FnOk P w K mg base (bh P w) 4 f fd ["_law_prime_here","_law_room_here","_law_terms_here"] spLPt:=by
 refine F.okN iQ (fun vs H Q E h=>?_) (fun cdv A outer s H vs Q E hr h=>?_)
 ·obtain ⟨r,l,p,ys,ts,rfl,_⟩:=h
  rfl
 ·obtain ⟨r,l,p,ys,ts,rfl,hR,hp,hl,nl,ht,h6,tg,q⟩:=h
  have hr3:Room 3 _:=hr.mono (by decide)
  have hr2:Room 2 _:=hr.mono (by decide)
  refine ⟨_,(ai (@aJ _ _ 3 _ _ _ _ iQ.nd rfl (Or.inl rfl) (@bf _ _ _ _ af) rfl (Or.inl rfl))
   (ai (dS PassesOwn.never rfl (cW (pv 2)) (cH rfl (aN (aG (i:=4) iQ.nd rfl (Or.inl rfl)) (aN (aG (i:=5) iQ.nd rfl (Or.inl rfl)) b7)))
   (ai (@aJ _ _ 6 _ _ _ _ iQ.nd rfl (Or.inl rfl) (av FN hr2 (by rfl) mN kN bN .nil ae (@aj _ _ _ _ _ (pv 1) (@aj _ _ _ _ _ (pv 0) af rfl) rfl)) rfl (Or.inl rfl))
   (ai (@aJ _ _ 7 _ _ _ _ iQ.nd rfl (Or.inl rfl) (av FP' hr3 (by rfl) mP kP bP .nil ae (@aj _ _ _ _ _ (pv 0) (@aj _ _ _ _ _ (pv 5) (@aj _ _ _ _ _ (av FM hr3 (by rfl) mM kM bM .nil ae (@aj _ _ _ _ _ (pv 0) (@aj _ _ _ _ _ (@bK _ _ _ _ _ (@aj _ _ _ _ _ (@aD _ _ _ _ _ _ _ _ oU ah ah) (@aj _ _ _ _ _ ah af rfl) rfl)) (@aj _ _ _ _ _ (pv 6) af rfl) rfl) rfl)) af rfl) rfl) rfl)) rfl (Or.inl rfl))
   (aq (@aJ _ _ 3 _ _ _ _ iQ.nd rfl (Or.inl rfl) (@aD _ _ _ _ _ _ _ _ ky (@aD _ _ _ _ _ _ _ _ ky (@bf _ _ _ _ (@aj _ _ _ _ _ (@bK _ _ _ _ _ (@aj _ _ _ _ _ (pv 4) (@aj _ _ _ _ _ (pv 7) af rfl) rfl)) af rfl)) (pv 3)) (@bf _ _ _ _ (@aj _ _ _ _ _ (@bK _ _ _ _ _ (@aj _ _ _ _ _ (pv 4) (@aj _ _ _ _ _ (pv 6) af rfl) rfl)) af rfl))) rfl (Or.inl rfl))))))
   (aq (az (pv 3))))),?_⟩
  have zl:=ht.length
  refine ⟨Nat.zero_le _,fun L hL=>?_⟩
  have nL:=hR.ne hL
  have s1:=ak (o:=.lst []) hL
  have e1:upd H L (.lst []) L=some (.lst []):=ag
  have R1:=hR.same s1
  generalize upd H L _=H1 at s1 e1 R1 ⊢
  refine ⟨_,rfl,l,rfl,⟨_,a7.of (s1 _ _ hl)⟩,?_⟩
  refine ic (K:=K) (a:=l) (xs:=ys) (fun j σ H'=>a9 H' r∧SameBut r H H'∧(∃ D us vs,H D=none∧H' D=some (.lst us)∧aZ H' us vs∧vs.length=2 * j∧(∀ t∈vs,qV p 92 t)∧∃ o4 o5 o6 o7,σ=[some (.int p),some (.ref r),some (.ref l),some (.ref D),o4,o5,o6,o7])) ⟨R1,SameBut.of s1,L,[],[],hL,e1,.nil,rfl,fun t h=>(nomatch h),_,_,_,_,rfl⟩ (fun j σ H' _ h=>a7.of (h.2.1 _ _ hl nl)) ?_ ?_
  ·rintro j y σ H2 hy ⟨R2,sb2,D,us,vs,hD,eD,hv,vl,vg,o4,o5,o6,o7,rfl⟩
   obtain ⟨⟨ks,t,b⟩,et,at_,pr,nu,rfl,hat,hpr,hnu⟩:=bH ht hy
   have hj:j < ts.length:=(List.getElem?_eq_some_iff.mp et).1
   have k02:=hR.keepT sb2
   have hat:=k02 _ _ hat
   have hpr:H2 pr=some (.tup (ks.map V.int)):=k02 _ _ hpr
   have hnu:H2 nu=some (bA t b):=k02 _ _ hnu
   have tg0:=tg _ (List.mem_of_getElem? et)
   have nD:=hR.ne hD
   refine ⟨at_,_,rfl,bg.of hat,rfl,_,_,rfl,_,_,rfl,rfl,?_⟩
   refine ⟨_,rfl,_,rfl,r,p,rfl,hp,R2,fun an st sb H3 hnum B1 B2 hn3 R3 sb3=>?_⟩
   have k3:=R2.keepT sb3
   have gs:Gn p 45 (st,sb):=⟨hnum,B1,B2⟩
   refine ⟨_,rfl,_,rfl,_,rfl,?_⟩
   refine ⟨_,_,rfl,rfl,f9,fun u hu=>?_⟩
   have r4:=ak (o:=.tup [.int (-1),.int 1]) hu
   have e4:upd H3 u (.tup [.int (-1),.int 1]) u=some (bA (-1) 1):=ag
   have R4:=R3.same r4
   change cG _ _ _ (upd H3 u (.tup [.int (-1),.int 1])) _
   generalize upd H3 u (.tup [.int (-1),.int 1])=H4 at r4 e4 R4 ⊢
   have hn4:=r4 _ _ hn3
   have k4:=aB.of r4
   refine ⟨_,rfl,p,-1,1,st,sb,u,an,rfl,hp,e4,hn4,(show B 1 (-1) by unfold B; decide).mono (by decide),(show B 1 1 by unfold B; decide).mono (by decide),B1.mono (by decide),B2.mono (by decide),by decide,gs.ne,fun z=>by rw [Int.one_mul]; exact gs.one z,fun H5 ng s5 e5=>?_⟩
   have gn:=rn hp gs (by decide)
   have e5:H5 ng=some (bA (wj p (st,sb)).1 (wj p (st,sb)).2):=e5
   generalize wj p (st,sb)=nn at e5 gn
   obtain ⟨nt,nb⟩:=nn
   have k5:=aB.of s5
   refine ⟨p,t,b,nt,nb,nu,ng,rfl,hp,k5 _ _ (k4 _ _ (k3 _ _ hnu)),e5,tg0.1.2.1.mono (by decide),tg0.1.2.2.mono (by decide),gn.2.1.mono (by decide),gn.2.2.mono (by decide),tg0.1.ne,gn.ne,fun z=>by rw [show b=1 from tg0.1.one z,show nb=1 from gn.one z]; rfl,fun H6 rs s6 e6=>?_⟩
   have gr:Gn p 92 (cI p (t,b) (nt,nb)):=j8 (n:=45) (m:=46) hp tg0.1 gn (by decide)
   have e6:H6 rs=some (bA (cI p (t,b) (nt,nb)).1 (cI p (t,b) (nt,nb)).2):=e6
   generalize cI p (t,b) (nt,nb)=rr at e6 gr
   obtain ⟨rt,rb⟩:=rr
   have s46:=(s5.trans s6)
   have s36:=r4.trans s46
   have R6:=R3.same s36
   have sb6:SameBut r H2 H6:=sb3.trans (SameBut.of s36)
   have k6:=R2.keepT sb6
   have hn6:=s36 _ _ hn3
   have eD6:=sb6 _ _ eD nD
   have hpr6:=k6 _ _ hpr
   have hv6:=aZ.keep hv k6
   clear e4 e5 hn4 R4 s5 s6 r4 s46 s36 k4 k5 hu R3 sb3 k3 hn3
   refine ⟨_,rfl,_,rfl,f9,fun u1 hu1=>?_⟩
   have r7:=ak (o:=.tup [.ref pr,.ref rs]) hu1
   have e7:upd H6 u1 (.tup [.ref pr,.ref rs]) u1=some (.tup [.ref pr,.ref rs]):=ag
   generalize upd H6 u1 _=H7 at r7 e7 ⊢
   refine ⟨we,fun p1 hp1=>?_⟩
   have r8:=ak (o:=.lst [.ref u1]) hp1
   have e8:upd H7 p1 (.lst [.ref u1]) p1=some (.lst [.ref u1]):=ag
   generalize upd H7 p1 _=H8 at r8 e8 ⊢
   have r68:=r7.trans r8
   have ul:us.length≤12:=by rw [hv.length]; omega
   refine ⟨_,rfl,p1,D,_,_,rfl,rfl,e8,r68 _ _ eD6,Nat.le_trans (show _≤60 by simp; omega) (by decide),fun p2 hp2=>?_⟩
   have r9:=ak (o:=.lst ([.ref u1]++us)) hp2
   have e9:upd H8 p2 (.lst ([.ref u1]++us)) p2=some (.lst ([.ref u1]++us)):=ag
   generalize upd H8 p2 _=H9 at r9 e9 ⊢
   refine ⟨_,rfl,_,rfl,f9,fun u2 hu2=>?_⟩
   have r10:=ak (o:=.tup [.ref pr,.ref an]) hu2
   have e10:upd H9 u2 (.tup [.ref pr,.ref an]) u2=some (.tup [.ref pr,.ref an]):=ag
   generalize upd H9 u2 _=H10 at r10 e10 ⊢
   refine ⟨we,fun p3 hp3=>?_⟩
   have r11:=ak (o:=.lst [.ref u2]) hp3
   have e11:upd H10 p3 (.lst [.ref u2]) p3=some (.lst [.ref u2]):=ag
   generalize upd H10 p3 _=H11 at r11 e11 ⊢
   have r9_11:=r10.trans r11
   refine ⟨p2,p3,_,_,rfl,rfl,r9_11 _ _ e9,e11,Nat.le_trans (show _≤60 by simp; omega) (by decide),fun p4 hp4=>?_⟩
   have r12:=ak (o:=.lst ([.ref u1]++us++[.ref u2])) hp4
   have s611:=(r68.trans r9).trans r9_11
   have R11:=R6.same s611
   have n4:=R11.ne hp4
   have sb11:SameBut r H H11:=(sb2.trans sb6).trans (SameBut.of s611)
   have hD4:=jN sb11 n4 hp4
   have s612:=s611.trans r12
   have s712:=((r8.trans r9).trans r9_11).trans r12
   have hv12:=aZ.keep hv6 (aB.of s612)
   refine ⟨R6.same s612,(sb2.trans sb6).trans (SameBut.of s612),p4,_,[(ks,rt,rb)]++vs++[(ks,st,sb)],hD4,ag,?_,by simp [vl]; omega,fun t' h=>?_,_,_,_,_,rfl⟩
   ·exact Paired.snoc (.cons ⟨u1,pr,rs,rfl,s712 _ _ e7,s612 _ _ hpr6,s612 _ _ e6⟩ hv12) ⟨u2,pr,an,rfl,r12 _ _ (r11 _ _ e10),s612 _ _ hpr6,s612 _ _ hn6⟩
   ·rcases List.mem_append.mp h with h | h
    ·rcases List.mem_append.mp h with h | h
     ·have:t'=(ks,rt,rb):=by simpa using h
      subst this
      exact ⟨gr,tg0.2⟩
     ·exact vg t' h
    ·have:t'=(ks,st,sb):=by simpa using h
     subst this
     exact ⟨gs.mono (by decide),tg0.2⟩
  ·rintro σ H' ⟨R2,sb2,D,us,vs,hD,eD,hv,vl,vg,o4,o5,o6,o7,rfl⟩
   exact ⟨_,rfl,q D us vs H' hD eD hv (by omega) vg R2 sb2⟩
abbrev BK:Stmt:=(aY 47)
theorem u4 {d:List Tm}{e:Tm}(h:e∈cP d):e∈d:=by
 unfold cP at h
 obtain ⟨x,hx,rfl⟩:=List.mem_map.mp h
 obtain ⟨y,hy,rfl⟩:=List.mem_map.mp ((bO _).mem_iff.mp hx)
 exact (List.mem_filter.mp hy).1
theorem sI (d:List Tm):(cP d).length≤d.length:=by
 unfold cP
 rw [List.length_map,(bO _).length_eq,List.length_map]
 exact List.length_filter_le _ _
theorem ub {p:Int}{d:List Tm}{t e:Tm}(h:e∈fM p d t):(∃ x∈d,e.1=x.1)∨e.1=t.1:=by
 unfold fM at h
 split at h
 ·obtain ⟨x,hx,rfl⟩:=List.mem_map.mp h
  refine .inl ⟨x,hx,?_⟩
  split <;> rfl
 ·rcases List.mem_append.mp h with h | h
  ·exact .inl ⟨e,h,rfl⟩
  ·have:e=t:=by simpa using h
   exact .inr (by rw [this])
theorem lM {p:Int}:∀ (ts d:List Tm)(e:Tm),e∈ts.foldl (fM p) d->(∃ x∈d,e.1=x.1)∨∃ x∈ts,e.1=x.1
 | [],d,e,h=>.inl ⟨e,h,rfl⟩
 | t :: ts,d,e,h=>by
   rcases lM ts (fM p d t) e h with ⟨x,hx,ex⟩ | ⟨x,hx,ex⟩
   ·rcases ub hx with ⟨y,hy,ey⟩ | ey
    ·exact .inl ⟨y,hy,ex.trans ey⟩
    ·exact .inr ⟨t,List.mem_cons_self,ex.trans ey⟩
   ·exact .inr ⟨x,List.mem_cons_of_mem _ hx,ex⟩
theorem B.wt {n:Nat}{i:Int}(h:B n i)(k:n≤1900):Wt i.natAbs:=⟨h.mono k⟩
theorem qB {p:Int}{m:Nat}{ts:List Tm}(hp:FP p)(h:∀ t∈ts,qV p m t)(hm:(m + 1) * ts.length + 7≤1900):(cP (aM p ts)).length≤ts.length∧∀ t∈cP (aM p ts),Wr t:=by
 obtain ⟨g1,g2,g3⟩:=d0 (m:=m) hp ts.length ts rfl fun t ht=>(h t ht).1
 refine ⟨Nat.le_trans (sI _) g3,fun t ht=>?_⟩
 have ht:=u4 ht
 obtain ⟨n1,n2,n3⟩:=g1 t ht
 have hk:∃ x∈ts,t.1=x.1:=by
  rcases lM ts [] t ht with ⟨x,hx,_⟩ | h
  ·exact nomatch hx
  ·exact h
 obtain ⟨x,hx,ex⟩:=hk
 obtain ⟨_,_,h3,h4⟩:=h x hx
 exact ⟨B.wt n2 hm,B.wt n3 hm,by have:=n1.pos; omega,by rw [ex]; exact h3,by rw [ex]; exact h4⟩
theorem zw {n:Nat}(h:n≤3000000):n≤sizeLine:=Nat.le_trans h (by decide)
def AK (C CF:Addr):Sp:=fun vs H Q _=>∃ (s l:Addr)(p:Int)(ys:List V)(ts:List Tm),vs=[.ref s,.int p,.ref l]∧FP p∧SumR C CF H s p (cP (aM p ts))∧H l=some (.lst ys)∧aZ H ys ts∧ts.length≤12∧(∀ t∈ts,qV p 92 t)∧∀ H',aA H H'->Q (.bl true) H'
theorem zV:FnScope ["_law_one","_law_prime_here","_law_terms_here","_law_due"] ["_law_one","_law_prime_here","_law_terms_here"] (ao BK):=dB (by decide +kernel)
set_option maxHeartbeats 1000000 in
theorem rH {f fw fg fs fr fl C CF:Addr}{fd fdw fdg fds fdr fdl:FuncData}(F:Fun K "_law_right" "_law_right" BK f fd)(m_str:mg "str"=none)(m_repr:mg "repr"=none)(m_bool:mg "bool"=none)
 (FW:FnOk P w K mg base (bh P w) 1 fw fdw ["_law_terms_here"] spLW)(bW:L2.ay K fdw ["_law_terms_here"] [])(mW:mg "_law_written"=some (.ref fw))(kW:keepIn K (.ref fw)=true)
 (FG:FnOk P w K mg base (bh P w) 4 fg fdg ["_law_prime_here","_law_terms_here"] spLGath)(bG:L2.ay K fdg ["_law_prime_here","_law_terms_here"] [])(mG:mg "_law_gather"=some (.ref fg))(kG:keepIn K (.ref fg)=true)
 (FS:FnOk P w K mg base (bh P w) 5 fs fds ["self"] (kq C CF))(bS:L2.ay K fds ["self"] [])(nS:findIn K (.ref C) "__str__"=some (some (.ref fs)))(iS:isFn K (.ref fs)=true)
 (FR:FnOk P w K mg base (bh P w) 8 fr fdr ["self"] (qO C CF))(bR:L2.ay K fdr ["self"] [])(nR:findIn K (.ref C) "__repr__"=some (some (.ref fr)))(iR:isFn K (.ref fr)=true)
 (FL:FnOk P w K mg base (bh P w) 1 fl fdl ["self"] (uI C))(bL:L2.ay K fdl ["self"] [])(nL:findIn K (.ref C) "__len__"=some (some (.ref fl)))(iL:isFn K (.ref fl)=true)(nB:findIn K (.ref C) "__bool__"=some none):
 FnOk P w K mg base (bh P w) 10 f fd ["_law_one","_law_prime_here","_law_terms_here"] (AK C CF):=by
 refine F.okN zV (fun vs H Q E h=>?_) (fun cdv A outer s H vs Q E hr h=>?_)
 ·obtain ⟨s,l,p,ys,ts,rfl,_⟩:=h
  rfl
 ·obtain ⟨s0,l,p,ys,ts,rfl,hp,S,hl,ht,h12,tg,q⟩:=h
  have hr1:Room 1 _:=hr.mono (by decide)
  have hr4:Room 4 _:=hr.mono (by decide)
  have hr7:Room 7 _:=hr.mono (by decide)
  refine ⟨_,(ai (@aJ _ _ 3 _ _ _ _ zV.nd rfl (Or.inl rfl) (av FW hr1 (by rfl) mW kW bW .nil ae (@aj _ _ _ _ _ (av FG hr4 (by rfl) mG kG bG .nil ae (@aj _ _ _ _ _ (pv 1) (@aj _ _ _ _ _ (pv 2) af rfl) rfl)) af rfl)) rfl (Or.inl rfl))
   (ai (bt (PW.pt (dh (@aE _ _ _ _ _ _ _ _ dw (aQ (dR nS iS FS hr7 bS ae) (by rfl) m_str (by rfl) (@aj _ _ _ _ _ (pv 0) af rfl)) (pv 3) (ax _)) (cL (@aE _ _ _ _ _ _ _ _ dw (aH (lA nR iR FR hr bR ae) (by rfl) m_repr (by rfl) (@aj _ _ _ _ _ (pv 0) af rfl)) (@aD _ _ _ _ _ _ _ _ bz (@aD _ _ _ _ _ _ _ _ bz (@aD _ _ _ _ _ _ _ _ bz (@aD _ _ _ _ _ _ _ _ bz aU (aQ bU (by rfl) m_str (by rfl) (@aj _ _ _ _ _ (pv 1) af rfl))) aU) (pv 3)) aU) (ax _))))) (aq (az gI)) aO)
   (aq (az (@bp _ _ _ _ _ _ _ _ cx (aQ (kU nB nL iL FL hr4 bL ae) (by rfl) m_bool (by rfl) (@aj _ _ _ _ _ (pv 0) af rfl)) (@bp _ _ _ _ _ _ _ _ (pj hr) (av FG hr4 (by rfl) mG kG bG .nil ae (@aj _ _ _ _ _ (pv 1) (@aj _ _ _ _ _ (pv 2) af rfl) rfl)) (@bf _ _ _ _ af) (ax _)) (ax _)))))),?_⟩
  have hm:(92 + 1) * ts.length + 7≤1900:=by omega
  obtain ⟨tl,wr⟩:=qB hp tg hm
  have h64:(cP (aM p ts)).length < 64:=by omega
  refine ⟨_,rfl,_,rfl,l,p,ys,ts,92,rfl,hp,hl,ht,by omega,fun t h=>(tg t h).1,by omega,by decide,fun H1 D zs s1 hD hz=>?_⟩
  refine ⟨D,zs,_,rfl,hD,hz,h64,wr,fun H2 s2=>?_⟩
  have s02:=s1.trans s2
  have S2:=S.same s02
  obtain ⟨dx,fl',dxf,Dd,zs',h1,h2,h3,h4⟩:=S2.ex
  refine ⟨_,rfl,s0,dx,_,rfl,h1,s0,p,_,rfl,S2,h64,wr,fun H3 s3=>?_⟩
  refine ⟨_,rfl,_,rfl,rfl,_,rfl,?_⟩
  refine bF (fun h=>absurd h (by simp)) (fun _=>?_)
  have S3:=S2.same s3
  obtain ⟨p0,p97⟩:=K05.FP.le hp
  have l1:(Str.ofString "Sum(").length=4:=by decide +kernel
  have l2:(Str.ofString (toString p)).length≤100:=by
   obtain ⟨n,rfl⟩:∃ n:Nat,p=(n:Int):=⟨p.toNat,by omega⟩
   rw [fV]
   exact ki (by decide) (Nat.lt_of_le_of_lt (show n≤97 by omega) (by decide))
  have l3:(Str.ofString ", '").length=3:=by decide +kernel
  have l4:=kE h64 wr
  have l5:(Str.ofString "')").length=2:=by decide +kernel
  have lg:p.natAbs.log2 < 1920:=by
   have:p.natAbs < 2 ^ 60:=Nat.lt_of_le_of_lt (show p.natAbs≤97 by omega) (by decide)
   exact Nat.lt_of_lt_of_le (ie (by decide) this) (by decide)
  refine ⟨_,rfl,s0,dx,_,rfl,s3 _ _ h1,s0,p,_,rfl,hp,S3,h64,wr,fun H4 s4=>⟨_,rfl,?_⟩⟩
  refine ⟨_,rfl,_,rfl,lg,_,_,rfl,rfl,zw (by omega),_,_,rfl,rfl,zw (by rw [Str.length_append]; omega),_,rfl,_,_,rfl,rfl,zw (by rw [Str.length_append,Str.length_append]; omega),_,_,rfl,rfl,zw (by rw [Str.length_append,Str.length_append,Str.length_append]; omega),rfl,_,rfl,?_⟩
  refine bF (fun h=>absurd h (by simp [rT])) (fun _=>?_)
  have h14:=s4 _ _ (s3 _ _ h1)
  have h34:=s4 _ _ (s3 _ _ h3)
  have s04:=(s02.trans s3).trans s4
  have zl':=h4.length
  refine ⟨_,rfl,s0,dx,_,rfl,h14,s0,dx,fl',Dd,zs',rfl,h14,h34,_,rfl,Nat.lt_of_le_of_lt (show _≤64 by omega) (by decide),?_⟩
  refine ⟨_,rfl,_,rfl,l,p,ys,ts,92,rfl,hp,s04 _ _ hl,aZ.keep ht (aB.of s04),by omega,fun t h=>(tg t h).1,by omega,by decide,fun H5 D5 zs5 s5 hD5 hz5=>?_⟩
  refine ⟨Nat.zero_le _,fun p1 hp1=>?_⟩
  have r6:=ak (o:=.lst []) hp1
  have e6:upd H5 p1 (.lst []) p1=some (.lst []):=ag
  generalize upd H5 p1 _=H6 at r6 e6 ⊢
  refine ⟨_,_,dm (r6 _ _ hD5) (aZ.keep hz5 (aB.of r6)),dm (ts:=[]) e6 .nil,lq _,rfl,?_⟩
  have ee:V.bl (decide (V.bl (zs'.length != 0)=V.bl (cT (lE (cP (aM p ts))) (lE []) != true))) = .bl true:=by
   rw [zl']
   cases cP (aM p ts) with
   | nil=>rfl
   | cons t0 tr=>rfl
  rw [ee]
  exact q _ ((s04.trans s5).trans r6)
abbrev u7:Stmt:=(aY 48)
abbrev NW:List Str:=["_law_script","_law_k","_law_room_here","_law_prime_here","_law_field","_law_terms_here","_law_more","_law_one","_law_other","_law_alike","_law_far","_law_things"]
theorem dk:FnScope NW ["_law_script"] (ao u7):=dB (by decide +kernel)
def xP:List Stmt:=match (bV u7).getD 0 (.Pass ⟨0,0,0,0⟩) with
 | .For _ _ b _ _=>b
 | _=>[]
abbrev XL (P:Program)(w:World)(K:Frag)(mg:Str->Option Value)(base:Heap)(fl:Addr)(cdv:Value)(A:Around)(outer:List Env)(s:Shared)(H0:Hp)(E:XK):Cx:=(ff (bh P w) P w K mg base NW "law" (ao u7) fl cdv A outer s H0 E).nox
theorem ju.imp' {X:Cx}{st:List Stmt}{t u:TS}(h:ju X st t)(i:∀ D σ H,u D σ H->t D σ H):ju X st u:=fun pins s σ H D I q=>h pins s σ H D I (i D σ H q)
theorem j3:∀ ns:List Int,dX (ns.map V.int)=decide (ns.Pairwise (· < ·))
 | []=>rfl
 | [n]=>by simp [dX]
 | n :: m :: ns=>by
   have ih:=j3 (m :: ns)
   have e:dX ((n :: m :: ns).map V.int)=(decide (n < m)&&dX ((m :: ns).map V.int)):=by simp [dX,zy]
   rw [e,ih]
   by_cases h:(m :: ns).Pairwise (· < ·)
   ·by_cases g:n < m
    ·have:(n :: m :: ns).Pairwise (· < ·):=List.pairwise_cons.mpr ⟨fun x hx=>by
      rcases List.mem_cons.mp hx with rfl | hx
      ·exact g
      ·exact Int.lt_trans g ((List.pairwise_cons.mp h).1 x hx),h⟩
     rw [decide_eq_true h,decide_eq_true g,decide_eq_true this]; rfl
    ·have:¬ (n :: m :: ns).Pairwise (· < ·):=fun z=>g ((List.pairwise_cons.mp z).1 m List.mem_cons_self)
     rw [decide_eq_false g,decide_eq_false this]; rfl
   ·have:¬ (n :: m :: ns).Pairwise (· < ·):=fun z=>h (List.pairwise_cons.mp z).2
    rw [decide_eq_false h,decide_eq_false this,Bool.and_false]
theorem yV {ks:List Int}(h:ks.Pairwise (· < ·))(hb:∀ k∈ks,0≤k∧k < 60)(hl:ks.length < 4000):AW ks:=by
 refine ⟨?_,hl⟩
 show ((ks.map V.int).all bX&&dX (ks.map V.int))=true
 rw [j3,decide_eq_true h,Bool.and_true,List.all_map,List.all_eq_true]
 intro k hk
 obtain ⟨h0,h1⟩:=hb k hk
 show (decide (0≤k)&&decide (k < 60))=true
 rw [decide_eq_true h0,decide_eq_true h1]
 rfl
theorem rf {H H':Hp}{s dx:Addr}{o u:HO}(h1:H s=none)(h2:H dx=none)(ne:dx≠s)(k:SameBut s (upd (upd H dx o) s u) H'):aA H H':=fun b v e=>by
 have b1:b≠s:=au e h1
 have b2:b≠dx:=au e h2
 exact k b v (by rw [ar b1,ar b2]; exact e) b1
theorem fW {C CF fl dxf s dx l:Addr}{p:Int}{H:Hp}{ys:List V}{ts:List Tm}{Q:Hp->Prop}{E:XK}(hs:H s=none)(hdx:H dx=none)(ne:dx≠s)(hf:H fl=some (.ins CF dxf (eC p)))(hp:FP p)(hl:H l=some (.lst ys))(ht:aZ H ys ts)(h12:ts.length≤12)(tg:∀ t∈ts,qV p 92 t)
 (q:∀ H',aA H H'->SumR C CF H' s p (cP (aM p ts))->Q H'):
 lG C CF [.ref s,.ref fl,.ref l] (upd (upd H dx (.own s)) s (.ins C dx [])) (fun v H2=>v = .non∧Q H2) E:=by
 have hS:aA H (upd (upd H dx (.own s)) s (.ins C dx [])):=(ak hdx).trans (ak (by rw [ar (Ne.symm ne)]; exact hs))
 refine ⟨s,dx,fl,dxf,p,_,ts,92,rfl,ag,hS _ _ hf,hp,.inr ⟨l,ys,rfl,hS _ _ hl,aZ.keep ht (aB.of hS)⟩,by omega,fun t h=>⟨(tg t h).1,yV (tg t h).2.1 (tg t h).2.2.1 (by have:=(tg t h).2.2.2; omega)⟩,by omega,by decide,fun H' D zs k _ h1 h2 h3=>?_⟩
 have sm:=rf hs hdx ne k
 exact ⟨rfl,q H' sm ⟨dx,fl,dxf,D,zs,h1,sm _ _ hf,h2,h3⟩⟩
theorem FP.good {p:Int}(h:FP p):good (.int p)=true:=by
 show gP p=true
 unfold gP
 rcases h with h | h
 ·rw [h]; rfl
 ·have:(primes.any fun q=>q == p)=true:=by
   rw [List.any_eq_true]
   exact ⟨p,h,by simp⟩
  rw [this]
  simp
theorem jb {CF NF fl dxf:Addr}{p:Int}{H:Hp}{Q:Hp->Prop}{E:XK}(hs:H fl=none)(hdx:H dxf=none)(ne:dxf≠fl)(hp:FP p)
 (q:∀ H',aA H H'->H' fl=some (.ins CF dxf (eC p))->Q H'):
 oh CF NF [.ref fl,.int p] (upd (upd H dxf (.own fl)) fl (.ins CF dxf [])) (fun v H2=>v = .non∧Q H2) E:=by
 have hS:aA H (upd (upd H dxf (.own fl)) fl (.ins CF dxf [])):=(ak hdx).trans (ak (by rw [ar (Ne.symm ne)]; exact hs))
 refine ⟨fl,dxf,.int p,_,rfl,.int p,ag,fun _=>⟨rfl,q _ (fun c u e=>?_) ag⟩,fun z=>by rw [hp.good] at z; cases z⟩
 rw [ar (au e hs)]
 exact hS _ _ e
structure AllW (P:Program)(w:World)(K:Frag)(mg:Str->Option Value)(base:Heap)(C CF NFd fI fFI:Addr)(fdI fdFI:FuncData):Prop where
 c:SumQ K mg C
 cF:FieldK K mg CF
 M:Mk K C fI
 FI:FnOk P w K mg base (bh P w) 6 fI fdI ["self","field","terms"] (lG C CF)
 bI:L2.ay K fdI ["self","field","terms"] []
 MF:Mk K CF fFI
 FFI:FnOk P w K mg base (bh P w) 2 fFI fdFI ["self","prime"] (oh CF NFd)
 bFFI:L2.ay K fdFI ["self","prime"] []
 eq:∃ f fd,FnOk P w K mg base (bh P w) 2 f fd ["self","other"] (fK K C CF)∧L2.ay K fd ["self","other"] []∧findIn K (.ref C) "__eq__"=some (some (.ref f))∧isFn K (.ref f)=true
 ne:findIn K (.ref C) "__ne__"=some (some (.builtin "object.__ne__"))
 kf:kitOne K (.ref CF) (.ref C)=some false
 nf:notFirst K C (.ref CF)=true
 str:∃ f fd,FnOk P w K mg base (bh P w) 5 f fd ["self"] (kq C CF)∧L2.ay K fd ["self"] []∧findIn K (.ref C) "__str__"=some (some (.ref f))∧isFn K (.ref f)=true
 room:∃ f fd,FnOk P w K mg base (bh P w) 1 f fd ["_law_script","_law_k"] (uq K)∧L2.ay K fd ["_law_script","_law_k"] []∧mg "_law_room"=some (.ref f)∧keepIn K (.ref f)=true
 prime:∃ f fd,FnOk P w K mg base (bh P w) 2 f fd ["_law_room_here"] spPrimeL∧L2.ay K fd ["_law_room_here"] []∧mg "_law_prime"=some (.ref f)∧keepIn K (.ref f)=true
 terms:∃ f fd,FnOk P w K mg base (bh P w) 3 f fd ["_law_room_here","_law_prime_here"] spLTerms∧L2.ay K fd ["_law_room_here","_law_prime_here"] []∧mg "_law_terms"=some (.ref f)∧keepIn K (.ref f)=true
 take:∃ f fd,FnOk P w K mg base (bh P w) 1 f fd ["_law_room_here","_law_many"] spTake∧L2.ay K fd ["_law_room_here","_law_many"] []∧mg "_law_take"=some (.ref f)∧keepIn K (.ref f)=true
 parted:∃ f fd,FnOk P w K mg base (bh P w) 4 f fd ["_law_prime_here","_law_room_here","_law_terms_here"] spLPt∧L2.ay K fd ["_law_prime_here","_law_room_here","_law_terms_here"] []∧mg "_law_parted"=some (.ref f)∧keepIn K (.ref f)=true
 gather:∃ f fd,FnOk P w K mg base (bh P w) 4 f fd ["_law_prime_here","_law_terms_here"] spLGath∧L2.ay K fd ["_law_prime_here","_law_terms_here"] []∧mg "_law_gather"=some (.ref f)∧keepIn K (.ref f)=true
 right:∃ f fd,FnOk P w K mg base (bh P w) 10 f fd ["_law_one","_law_prime_here","_law_terms_here"] (AK C CF)∧L2.ay K fd ["_law_one","_law_prime_here","_law_terms_here"] []∧mg "_law_right"=some (.ref f)∧keepIn K (.ref f)=true
 m_min:mg "min"=none
 m_max:mg "max"=none
 m_range:mg "range"=none
 m_len:mg "len"=none
 m_int:mg "int"=none
 m_str:mg "str"=none
def vc (K:Frag)(C CF:Addr)(p:Int)(H:Hp)(y:V):Prop:=∃ t,TyX K H y t∧notFirst K C t=true∧((∃ s' p' ts',y = .ref s'∧SumR C CF H s' p' ts'∧p≠p')∨kitOne K t (.ref C)=some false)
theorem vc.th {K:Frag}{mg:Str->Option Value}{C CF:Addr}{p:Int}{H:Hp}{y:V}{T:String}(c:SumQ K mg C)(h:Th H y T):vc K C CF p H y:=⟨_,h.ty,zK h,.inr (c.no h)⟩
theorem vc.eq {K:Frag}{C CF:Addr}{p:Int}{H:Hp}{y:V}{s:Addr}{ts:List Tm}{E:XK}{b:Bool}{Q:VK}(h:vc K C CF p H y)(S:SumR C CF H s p ts)(q:Q (.bl (false != b)) H):dD K C (fK K C CF) E b (.ref s) y H Q:=by
 obtain ⟨dx,fl,dxf,D,zs,h1,h2,h3,h4⟩:=S.ex
 obtain ⟨t,ty,nf,h⟩:=h
 refine ⟨s,dx,_,t,rfl,h1,ty,nf,s,p,ts,y,rfl,S,?_⟩
 rcases h with ⟨s',p',ts',rfl,S',ne⟩ | h
 ·refine .inl ⟨s',p',ts',rfl,S',_,rfl,?_⟩
  rw [decide_eq_false ne,Bool.false_and]
  exact q
 ·exact .inr ⟨t,ty,h,_,rfl,q⟩
theorem BJ {K:Frag}{mg:Str->Option Value}{C CF:Addr}{p:Int}{H:Hp}{s s':Addr}{td te:List Tm}{E:XK}{b:Bool}{Q:VK}(c:SumQ K mg C)(S:SumR C CF H s p td)(S':SumR C CF H s' p te)(q:Q (.bl (cT (lE td) (lE te) != b)) H):dD K C (fK K C CF) E b (.ref s) (.ref s') H Q:=by
 obtain ⟨dx,fl,dxf,D,zs,h1,h2,h3,h4⟩:=S.ex
 obtain ⟨dx',fl',dxf',D',zs',g1,_⟩:=S'.ex
 refine ⟨s,dx,_,.ref C,rfl,h1,c.ty g1,fX,s,p,td,.ref s',rfl,S,.inl ⟨s',p,te,rfl,S',_,rfl,?_⟩⟩
 rw [decide_eq_true rfl,Bool.true_and]
 exact q
def B5 (C CF:Addr):TS:=fun D σ H=>∃ (fl dxf L s:Addr)(p:Int)(ys:List V)(td:List Tm)(o0 o1 o2 o6 o8 o9 o10 o11:Option V),σ=[o0,o1,o2,some (.int p),some (.ref fl),some (.ref L),o6,some (.ref s),o8,o9,o10,o11]∧H fl=some (.ins CF dxf (eC p))∧FP p∧H L=some (.lst ys)∧SumR C CF H s p td∧td.length < 64∧(∀ t∈td,Wr t) ∧
 ∀ a b H',aA H H'->D.nx [o0,o1,o2,some (.int p),some (.ref fl),some (.ref L),o6,some (.ref s),o8,o9,a,b] H'
def B7 (CF:Addr):TS:=fun D σ H=>∃ (fl dxf L M:Addr)(p:Int)(ys us:List V)(ts vs:List Tm)(o0 o1 o2 o7 o8 o9 o10 o11:Option V),σ=[o0,o1,o2,some (.int p),some (.ref fl),some (.ref L),some (.ref M),o7,o8,o9,o10,o11]∧H fl=some (.ins CF dxf (eC p))∧FP p∧H L=some (.lst ys)∧aZ H ys ts∧ts.length≤12∧(∀ t∈ts,qV p 92 t)∧H M=some (.lst us)∧aZ H us vs∧vs.length≤12∧(∀ t∈vs,qV p 92 t) ∧
 ∀ a b c d e H',aA H H'->D.nx [o0,o1,o2,some (.int p),some (.ref fl),some (.ref L),some (.ref M),a,b,c,d,e] H'
theorem vR (p:Int):cP (aM p [])=[]:=rfl
section
variable {P:Program}{w:World}{K:PySem.W.Frag}{mg:Str->Option Value}{base:Heap}
variable {fa:Addr}{cdv:Value}{A:Around}{outer:List Env}{s0:Shared}{H0:Hp}{E0:XK}{C CF NFd fI fFI:Addr}{fdI fdFI:FuncData}
set_option maxHeartbeats 1000000 in
theorem vv (hr10:Room 10 (XL P w K mg base fa cdv A outer s0 H0 E0).A)(W:AllW P w K mg base C CF NFd fI fFI fdI fdFI):ju (XL P w K mg base fa cdv A outer s0 H0 E0) (xP.drop 10) (B5 C CF):=by
 have hr7:Room 7 (XL P w K mg base fa cdv A outer s0 H0 E0).A:=hr10.mono (by decide)
 have hr3:Room 3 (XL P w K mg base fa cdv A outer s0 H0 E0).A:=hr10.mono (by decide)
 have hr2:Room 2 (XL P w K mg base fa cdv A outer s0 H0 E0).A:=hr10.mono (by decide)
 obtain ⟨fE,fdE,FE,bE,nE,iE⟩:=W.eq
 obtain ⟨fS,fdS,FS,bS,nS,iS⟩:=W.str
 refine ju.imp' (ai (@aJ _ _ 10 _ _ _ _ dk.nd rfl (Or.inl rfl) (ed W.M W.FI hr7 (by rfl) W.c.c.mgC W.bI .nil ae (@aj _ _ _ _ _ (ed W.MF W.FFI hr3 (by rfl) W.cF.mgC W.bFFI .nil ae (@aj _ _ _ _ _ (@aK _ _ _ _ _ _ _ bc (@bf _ _ _ _ (@aj _ _ _ _ _ ah (@aj _ _ _ _ _ ah af rfl) rfl)) (aQ cK (by rfl) W.m_int (by rfl) (@aj _ _ _ _ _ (@bp _ _ _ _ _ _ _ _ cx (pv 3) ah (ax _)) af rfl)) (fun _ _=>rfl)) af rfl)) (@aj _ _ _ _ _ (@bf _ _ _ _ af) af rfl) rfl)) rfl (Or.inl rfl))
  (ai (@aJ _ _ 11 _ _ _ _ dk.nd rfl (Or.inl rfl) (@bf _ _ _ _ (@aj _ _ _ _ _ (pv 10) (@aj _ _ _ _ _ (pv 5) (@aj _ _ _ _ _ (aQ (dR nS iS FS hr7 bS ae) (by rfl) W.m_str (by rfl) (@aj _ _ _ _ _ (pv 7) af rfl)) (@aj _ _ _ _ _ (@bK _ _ _ _ _ (@aj _ _ _ _ _ ah (@aj _ _ _ _ _ ah af rfl) rfl)) (@aj _ _ _ _ _ ah (@aj _ _ _ _ _ (pv 4) (@aj _ _ _ _ _ (@bf _ _ _ _ (@aj _ _ _ _ _ (pv 7) af rfl)) af rfl) rfl) rfl) rfl) rfl) rfl) rfl)) rfl (Or.inl rfl))
  (aq (bt (PW.pt (dh (@aE _ _ _ _ _ _ _ _ (vp hr10) (dG (N:=["_law_thing","_law_one"]) (nl:=1) (js:=[7]) (osc:=ao u7) ⟨rfl,rfl,by decide +kernel,by decide +kernel,by decide +kernel,rfl,(.cons ⟨rfl,by decide +kernel⟩ .nil),by decide +kernel⟩ rfl
   (cW (pv 11))
   (fun Cq fq sq Hq=>aG (i:=0) (by show (["_law_thing","_law_one"]:List Str).Nodup; decide +kernel) rfl (Or.inl rfl) (Or.inr rfl))
   (fun Cq fq sq Hq=>(hX (PW.pt (dh (@aE _ _ _ _ _ _ _ _ (show dz (d8 (XL P w K mg base fa cdv A outer s0 H0 E0) ["_law_thing","_law_one"] _ Cq fq sq Hq) _ (dD K C (fK K C CF) (fun _ _ _=>False) false) from fF (X:=(d8 (XL P w K mg base fa cdv A outer s0 H0 E0) ["_law_thing","_law_one"] _ Cq fq sq Hq)) nE iE FE hr2 bE ae) (pv 1) (pv 0) (ax _)) (cL (cz (@aE _ _ _ _ _ _ _ _ (show dz (d8 (XL P w K mg base fa cdv A outer s0 H0 E0) ["_law_thing","_law_one"] _ Cq fq sq Hq) _ (dD K C (fK K C CF) (fun _ _ _=>False) true) from mj (X:=(d8 (XL P w K mg base fa cdv A outer s0 H0 E0) ["_law_thing","_law_one"] _ Cq fq sq Hq)) nE iE W.ne W.c.ob FE hr3 bE ae) (pv 1) (pv 0) (ax _))))))))
   (fun Cq fq sq Hq=>(pv 0))) (@bf _ _ _ _ af) (ax _)) (cL (@aE _ _ _ _ _ _ _ _ (show dz _ _ (dD K C (fK K C CF) (fun _ _ _=>False) false) from fF nE iE FE hr2 bE ae) (ed W.M W.FI hr7 (by rfl) W.c.c.mgC W.bI .nil ae (@aj _ _ _ _ _ (pv 4) (@aj _ _ _ _ _ (@bf _ _ _ _ af) af rfl) rfl)) (pv 10) (ax _))))) (aq (az gI)) aO)))) fun D σ H h=>?_
 obtain ⟨fl,dxf,L,s,p,ys,td,o0,o1,o2,o6,o8,o9,o10,o11,rfl,hf,hp,hL,S,h64,wr,q⟩:=h
 refine ⟨f9,fun p1 hp1=>?_⟩
 have r1:=ak (o:=.lst [.int 7,.int 0]) hp1
 have e1:upd H p1 (.lst [.int 7,.int 0]) p1=some (.lst [.int 7,.int 0]):=ag
 generalize upd H p1 _=H1 at r1 e1 ⊢
 refine ⟨_,rfl,rfl,.inr ⟨_,rfl,p1,_,_,_,rfl,rfl,a7.of e1,jR (K:=K),fun fl2 dxf2 hfl hdxf ne=>?_⟩⟩
 obtain ⟨p',ep,hp',np⟩:∃ p':Int,(if decide (V.int p=V.int 7)=true then V.int 0 else V.int 7)=V.int p'∧FP p'∧p≠p':=by
  by_cases h:p=7
  ·refine ⟨0,?_,.inl rfl,by omega⟩
   rw [h]; rfl
  ·refine ⟨7,?_,.inr (by decide),h⟩
   rw [decide_eq_false (fun z=>h (by injection z))]; rfl
 rw [ep]
 refine jb hfl hdxf ne hp' fun H2 r2 hf2=>?_
 clear hfl hdxf ne ep
 refine ⟨Nat.zero_le _,fun e he=>?_⟩
 have r3:=ak (o:=.lst []) he
 have e3:upd H2 e (.lst []) e=some (.lst []):=ag
 generalize upd H2 e _=H3 at r3 e3 ⊢
 intro s2 dx2 hs2 hdx2 ne2
 refine fW (ts:=[]) hs2 hdx2 ne2 (r3 _ _ hf2) hp' e3 .nil (by decide) (fun t h=>nomatch h) fun H4 r4 S4=>?_
 rw [vR] at S4
 clear hs2 hdx2 ne2
 have s04:=((r1.trans r2).trans r3).trans r4
 have S':=S.same s04
 have hf4:=s04 _ _ hf
 have hL4:=s04 _ _ hL
 obtain ⟨dx,fl',dxf',Dd,zs,h1,h2,h3,h4⟩:=S'.ex
 refine ⟨_,rfl,_,rfl,_,rfl,s,dx,_,rfl,h1,s,p,td,rfl,S',h64,wr,fun H5 r5=>⟨_,rfl,?_⟩⟩
 refine ⟨f9,fun tu htu=>?_⟩
 have r6:=ak (o:=.tup [.int 0,.int 1]) htu
 have e6:upd H5 tu (.tup [.int 0,.int 1]) tu=some (.tup [.int 0,.int 1]):=ag
 generalize upd H5 tu _=H6 at r6 e6 ⊢
 refine ⟨_,rfl,_,rfl,we,fun l1 hl1=>?_⟩
 have r7:=ak (o:=.lst [.ref s]) hl1
 have e7:upd H6 l1 (.lst [.ref s]) l1=some (.lst [.ref s]):=ag
 generalize upd H6 l1 _=H7 at r7 e7 ⊢
 refine ⟨B9,fun TH hTH=>?_⟩
 have r8:=ak (o:=.lst [.ref s2,.ref L,.str (sC td),.ref tu,.int 0,.ref fl,.ref l1]) hTH
 have e8:upd H7 TH (.lst [.ref s2,.ref L,.str (sC td),.ref tu,.int 0,.ref fl,.ref l1]) TH=some (.lst [.ref s2,.ref L,.str (sC td),.ref tu,.int 0,.ref fl,.ref l1]):=ag
 generalize upd H7 TH _=H8 at r8 e8 ⊢
 have r48:=((r5.trans r6).trans r7).trans r8
 have s08:=s04.trans r48
 have S8:=S.same s08
 have S48:=S4.same r48
 have un:∀ y∈([.ref s2,.ref L,.str (sC td),.ref tu,.int 0,.ref fl,.ref l1]:List V),vc K C CF p H8 y:=by
  intro y hy
  simp only [List.mem_cons,List.not_mem_nil,or_false] at hy
  rcases hy with rfl | rfl | rfl | rfl | rfl | rfl | rfl
  ·obtain ⟨dx',_,_,_,_,g1,_⟩:=S48.ex
   exact ⟨_,W.c.ty g1,fX,.inl ⟨s2,p',[],rfl,S48,np⟩⟩
  ·exact vc.th W.c (.lst (s08 _ _ hL))
  ·exact vc.th W.c (.str _)
  ·exact vc.th W.c (.tup (r8 _ _ (r7 _ _ e6)))
  ·exact vc.th W.c (.int _)
  ·exact ⟨_,W.cF.ty (s08 _ _ hf),W.nf,.inr W.kf⟩
  ·exact vc.th W.c (.lst (r8 _ _ e7))
 refine ⟨_,rfl,TH,rfl,⟨_,a7.of e8⟩,?_⟩
 refine ma (xs:=[.ref s2,.ref L,.str (sC td),.ref tu,.int 0,.ref fl,.ref l1]) (fun i us H'=>H8=H'∧us=[]) ⟨rfl,rfl⟩ (fun i us H' hi h=>?_) (fun i y us H' N hi hy h k=>?_) (fun us H' h=>?_)
 ·obtain ⟨rfl,rfl⟩:=h
  exact ⟨by decide,a7.of e8⟩
 ·obtain ⟨rfl,rfl⟩:=h
  have u:=un y (List.mem_of_getElem? hy)
  refine ⟨_,rfl,_,rfl,u.eq S8 ?_⟩
  refine ⟨_,rfl,?_⟩
  refine cq ⟨_,rfl,_,rfl,u.eq S8 ?_⟩
  exact ⟨_,rfl,cq (k _ _ ⟨rfl,rfl⟩)⟩
 obtain ⟨rfl,rfl⟩:=h
 intro c1 hc1
 have r9:=ak (o:=.lst []) hc1
 have e9:upd H8 c1 (.lst []) c1=some (.lst []):=ag
 generalize upd H8 c1 _=H9 at r9 e9 ⊢
 refine ⟨Nat.zero_le _,fun c2 hc2=>?_⟩
 have r10:=ak (o:=.lst []) hc2
 have e10:upd H9 c2 (.lst []) c2=some (.lst []):=ag
 generalize upd H9 c2 _=H10 at r10 e10 ⊢
 refine ⟨c1,c2,_,rfl,rfl,a7.of (r10 _ _ e9),a7.of e10,_,rfl,?_⟩
 refine cq ⟨_,rfl,Nat.zero_le _,fun c3 hc3=>?_⟩
 have r11:=ak (o:=.lst []) hc3
 have e11:upd H10 c3 (.lst []) c3=some (.lst []):=ag
 generalize upd H10 c3 _=H11 at r11 e11 ⊢
 have r8_11:=(r9.trans r10).trans r11
 intro s3 dx3 hs3 hdx3 ne3
 refine fW (ts:=[]) hs3 hdx3 ne3 (r8_11 _ _ (s08 _ _ hf)) hp e11 .nil (by decide) (fun t h=>nomatch h) fun H12 r12 S12=>?_
 have r8_12:=r8_11.trans r12
 have S412:=S48.same r8_12
 have u:vc K C CF p H12 (.ref s2):=by
  obtain ⟨dx',_,_,_,_,g1,_⟩:=S412.ex
  exact ⟨_,W.c.ty g1,fX,.inl ⟨s2,p',[],rfl,S412,np⟩⟩
 refine ⟨_,rfl,u.eq S12 ⟨_,rfl,cq ?_⟩⟩
 exact q _ _ _ (s08.trans r8_12)
set_option maxHeartbeats 1000000 in
theorem uU (hr10:Room 10 (XL P w K mg base fa cdv A outer s0 H0 E0).A)(W:AllW P w K mg base C CF NFd fI fFI fdI fdFI):ju (XL P w K mg base fa cdv A outer s0 H0 E0) (xP.drop 6) (B7 CF):=by
 have hr7:Room 7 (XL P w K mg base fa cdv A outer s0 H0 E0).A:=hr10.mono (by decide)
 have hr4:Room 4 (XL P w K mg base fa cdv A outer s0 H0 E0).A:=hr10.mono (by decide)
 have hr3:Room 3 (XL P w K mg base fa cdv A outer s0 H0 E0).A:=hr10.mono (by decide)
 have hr2:Room 2 (XL P w K mg base fa cdv A outer s0 H0 E0).A:=hr10.mono (by decide)
 obtain ⟨fE,fdE,FE,bE,nE,iE⟩:=W.eq
 obtain ⟨fG,fdG,FG,bG,mG,kG⟩:=W.gather
 obtain ⟨fR,fdR,FR,bR,mR,kR⟩:=W.right
 refine ju.imp' (ai (eZ (@bK _ _ _ _ _ (@aj _ _ _ _ _ (ed W.M W.FI hr7 (by rfl) W.c.c.mgC W.bI .nil ae (@aj _ _ _ _ _ (pv 4) (@aj _ _ _ _ _ (pv 5) af rfl) rfl)) (@aj _ _ _ _ _ (ed W.M W.FI hr7 (by rfl) W.c.c.mgC W.bI .nil ae (@aj _ _ _ _ _ (pv 4) (@aj _ _ _ _ _ (pv 6) af rfl) rfl)) af rfl) rfl)) (cH rfl (aN (aG (i:=7) dk.nd rfl (Or.inr rfl)) (aN (aG (i:=8) dk.nd rfl (Or.inl rfl)) b7))))
  (ai (@aJ _ _ 9 _ _ _ _ dk.nd rfl (Or.inl rfl) (@bp _ _ _ _ _ _ _ _ (v9 hr10) (av FG hr4 (by rfl) mG kG bG .nil ae (@aj _ _ _ _ _ (pv 3) (@aj _ _ _ _ _ (pv 5) af rfl) rfl)) (av FG hr4 (by rfl) mG kG bG .nil ae (@aj _ _ _ _ _ (pv 3) (@aj _ _ _ _ _ (pv 6) af rfl) rfl)) (ax _)) rfl (Or.inl rfl))
  (ai (bt (PW.pt (dh (@aE _ _ _ _ _ _ _ _ dw (@bp _ _ _ _ _ _ _ _ (show dz _ _ (dD K C (fK K C CF) (fun _ _ _=>False) false) from fF nE iE FE hr2 bE ae) (pv 7) (pv 8) (ax _)) (pv 9) (ax _)) (dh (@aE _ _ _ _ _ _ _ _ cx (@bp _ _ _ _ _ _ _ _ (show dz _ _ (dD K C (fK K C CF) (fun _ _ _=>False) true) from mj nE iE W.ne W.c.ob FE hr3 bE ae) (pv 7) (pv 8) (ax _)) (pv 9) (ax _)) (cL (@aE _ _ _ _ _ _ _ _ dw (@bp _ _ _ _ _ _ _ _ (v8 nE iE FE hr4 bE ae) (pv 8) (@bf _ _ _ _ (@aj _ _ _ _ _ (pv 7) af rfl)) (by rfl)) (pv 9) (ax _)))))) (aq (az gI)) aO)
  (ai (bt (PW.pt (dh (cz (c7 (av FR hr10 (by rfl) mR kR bR .nil ae (@aj _ _ _ _ _ (pv 7) (@aj _ _ _ _ _ (pv 3) (@aj _ _ _ _ _ (pv 5) af rfl) rfl) rfl)))) (cL (cz (c7 (av FR hr10 (by rfl) mR kR bR .nil ae (@aj _ _ _ _ _ (pv 8) (@aj _ _ _ _ _ (pv 3) (@aj _ _ _ _ _ (pv 6) af rfl) rfl) rfl))))))) (aq (az gI)) aO)
  (vv hr10 W))))) fun D σ H h=>?_
 obtain ⟨fl,dxf,L,M,p,ys,us,ts,vs,o0,o1,o2,o7,o8,o9,o10,o11,rfl,hf,hp,hL,ht,h12,tg,hM,hv,v12,vg,q⟩:=h
 refine ⟨_,rfl,_,rfl,fun s dx hs hdx ne=>?_⟩
 refine fW hs hdx ne hf hp hL ht h12 tg fun H1 r1 S1=>?_
 refine ⟨_,rfl,_,rfl,fun s' dx' hs' hdx' ne'=>?_⟩
 have nss:s'≠s:=fun z=>by
  obtain ⟨_,_,_,_,_,g1,_⟩:=S1.ex
  rw [z,g1] at hs'
  cases hs'
 refine fW hs' hdx' ne' (r1 _ _ hf) hp (r1 _ _ hM) (aZ.keep hv (aB.of r1)) v12 vg fun H2 r2 S2=>?_
 clear hs hdx ne hs' hdx' ne'
 have r02:=r1.trans r2
 have S1:=S1.same r2
 refine ⟨f9,fun tp htp=>?_⟩
 have r3:=ak (o:=.tup [.ref s,.ref s']) htp
 have e3:upd H2 tp (.tup [.ref s,.ref s']) tp=some (.tup [.ref s,.ref s']):=ag
 generalize upd H2 tp _=H3 at r3 e3 ⊢
 have r03:=r02.trans r3
 have S1:=S1.same r3
 have S2:=S2.same r3
 refine ⟨tp,_,rfl,bg.of e3,rfl,_,_,rfl,_,_,rfl,rfl,?_⟩
 refine ⟨_,rfl,_,rfl,L,p,ys,ts,92,rfl,hp,r03 _ _ hL,aZ.keep ht (aB.of r03),by omega,fun t h=>(tg t h).1,by omega,by decide,fun H4 D1 zs1 r4 hD1 hz1=>?_⟩
 have r04:=r03.trans r4
 refine ⟨_,rfl,_,rfl,M,p,us,vs,92,rfl,hp,r04 _ _ hM,aZ.keep hv (aB.of r04),by omega,fun t h=>(vg t h).1,by omega,by decide,fun H5 D2 zs2 r5 hD2 hz2=>?_⟩
 refine ⟨_,_,dm (r5 _ _ hD1) (aZ.keep hz1 (aB.of r5)),dm hD2 hz2,lq _,?_⟩
 have r35:=r4.trans r5
 have r05:=r03.trans r35
 have S1:=S1.same r35
 have S2:=S2.same r35
 obtain ⟨wl1,wr1⟩:=qB (m:=92) hp tg (by omega)
 obtain ⟨dq,edq⟩:∃ b:Bool,cT (lE (cP (aM p ts))) (lE (cP (aM p vs)))=b:=⟨_,rfl⟩
 rw [edq]
 refine ⟨_,rfl,_,rfl,BJ W.c S1 S2 ?_⟩
 rw [edq]
 refine ⟨_,rfl,rfl,_,rfl,?_⟩
 refine bF (fun h=>absurd h (by simp)) (fun _=>?_)
 refine ⟨_,rfl,_,rfl,BJ W.c S1 S2 ?_⟩
 rw [edq]
 refine ⟨_,rfl,rfl,_,rfl,?_⟩
 refine bF (fun h=>absurd h (by cases dq <;> simp)) (fun _=>?_)
 refine ⟨_,rfl,_,rfl,we,fun l1 hl1=>?_⟩
 have r6:=ak (o:=.lst [.ref s]) hl1
 have e6:upd H5 l1 (.lst [.ref s]) l1=some (.lst [.ref s]):=ag
 generalize upd H5 l1 _=H6 at r6 e6 ⊢
 have r06:=r05.trans r6
 have S1:=S1.same r6
 have S2:=S2.same r6
 obtain ⟨dx1,_,_,_,_,g1,_⟩:=S1.ex
 obtain ⟨dx2,_,_,_,_,g2,_⟩:=S2.ex
 refine ⟨s,dx1,_,l1,.ref C,s',rfl,rfl,a7.of e6,g1,nss,W.c.ty g2,fX,s,p,_,.ref s',rfl,S1,.inl ⟨s',p,_,rfl,S2,_,rfl,a7.of e6,?_⟩⟩
 rw [edq]
 refine ⟨_,rfl,rfl,_,rfl,?_⟩
 refine bF (fun h=>absurd h (by cases dq <;> simp)) (fun _=>?_)
 refine ⟨_,rfl,_,rfl,_,rfl,s,L,p,ys,ts,rfl,hp,S1,r06 _ _ hL,aZ.keep ht (aB.of r06),h12,tg,fun H7 r7=>⟨_,rfl,?_⟩⟩
 have r07:=r06.trans r7
 refine cq ⟨_,rfl,_,rfl,_,rfl,s',M,p,us,vs,rfl,hp,S2.same r7,r07 _ _ hM,aZ.keep hv (aB.of r07),v12,vg,fun H8 r8=>⟨_,rfl,?_⟩⟩
 have r08:=r07.trans r8
 refine cq ⟨fl,dxf,L,s,p,ys,_,_,_,_,_,_,_,_,_,rfl,r08 _ _ hf,hp,r08 _ _ hL,S1.same (r7.trans r8),by omega,wr1,fun a b H9 r9=>?_⟩
 exact q _ _ _ _ _ _ (r08.trans r9)
def wc (K:Frag)(H:Hp)(a:Addr)(ns:List Int):Prop:=(∃ o,H a=some (.frz o (.lst (ns.map V.int))))∨∃ (o:Obj)(its:Array Value)(n:Nat),K.lookup a=some o∧o.cls = .type "list"∧o.dict=none∧o.data = .seq its n∧its.size≤sizeLine∧L2.aI (ns.map V.int) its.toList
theorem wc.sq {K:Frag}{H:Hp}{a:Addr}{ns:List Int}(h:wc K H a ns):a7 K H a (ns.map V.int):=by
 rcases h with ⟨o,h⟩ | h
 ·exact .inl (.inr ⟨o,h⟩)
 ·exact .inr h
theorem wc.same {K:Frag}{H H':Hp}{a:Addr}{ns:List Int}(h:wc K H a ns)(S:aA H H'):wc K H' a ns:=by
 rcases h with ⟨o,h⟩ | h
 ·exact .inl ⟨o,S _ _ h⟩
 ·exact .inr h
theorem wc.but {K:Frag}{H H':Hp}{a r:Addr}{ns:List Int}(h:wc K H a ns)(R:a9 H r)(S:SameBut r H H'):wc K H' a ns:=by
 rcases h with ⟨o,h⟩ | h
 ·refine .inl ⟨o,S _ _ h fun z=>?_⟩
  obtain ⟨l,x,e,_⟩:=R
  rw [z,e] at h
  cases h
 ·exact .inr h
def vh (K:Frag):Sp:=fun vs H Q _=>∃ (a:Addr)(ns:List Int),vs=[.ref a]∧wc K H a ns∧ns.length≤63∧∀ H',Q (.bl true) H'
set_option maxHeartbeats 1000000 in
theorem yP {f:Addr}{fd:FuncData}(F:Fun K "law" "law" u7 f fd)(W:AllW P w K mg base C CF NFd fI fFI fdI fdFI):FnOk P w K mg base (bh P w) 11 f fd ["_law_script"] (vh K):=by
 refine F.okN dk (fun vs H Q E h=>?_) (fun cdv A outer s H vs Q E hr h=>?_)
 ·obtain ⟨a,ns,rfl,_⟩:=h
  rfl
 ·obtain ⟨a,ns,rfl,scr,hlen,fin⟩:=h
  have hr10:Room 10 (XL P w K mg base f cdv A outer s H E).A:=hr
  have hr4:Room 4 (XL P w K mg base f cdv A outer s H E).A:=hr10.mono (by decide)
  have hr3:Room 3 (XL P w K mg base f cdv A outer s H E).A:=hr10.mono (by decide)
  have hr2:Room 2 (XL P w K mg base f cdv A outer s H E).A:=hr10.mono (by decide)
  have hr1:Room 1 (XL P w K mg base f cdv A outer s H E).A:=hr10.mono (by decide)
  obtain ⟨fRm,fdRm,FRm,bRm,mRm,kRm⟩:=W.room
  obtain ⟨fPr,fdPr,FPr,bPr,mPr,kPr⟩:=W.prime
  obtain ⟨fLt,fdLt,FLt,bLt,mLt,kLt⟩:=W.terms
  obtain ⟨fTk,fdTk,FTk,bTk,mTk,kTk⟩:=W.take
  obtain ⟨fPt,fdPt,FPt,bPt,mPt,kPt⟩:=W.parted
  refine ⟨_,(ai (dS PassesOwn.never rfl (eA (by rfl) W.m_range (@aj _ _ _ _ _ (aH (rJ rfl) (by rfl) W.m_max (by rfl) (@aj _ _ _ _ _ ah (@aj _ _ _ _ _ (aH (rG rfl) (by rfl) W.m_min (by rfl) (@aj _ _ _ _ _ (aH bD (by rfl) W.m_len PySem.boot_len (@aj _ _ _ _ _ (pv 0) af rfl)) (@aj _ _ _ _ _ ah af rfl) rfl)) af rfl) rfl)) af rfl)) (aG (i:=1) dk.nd rfl (Or.inl rfl))
   (ai (@aJ _ _ 2 _ _ _ _ dk.nd rfl (Or.inl rfl) (av FRm hr1 (by rfl) mRm kRm bRm .nil ae (@aj _ _ _ _ _ (pv 0) (@aj _ _ _ _ _ (pv 1) af rfl) rfl)) rfl (Or.inl rfl))
   (ai (@aJ _ _ 3 _ _ _ _ dk.nd rfl (Or.inl rfl) (av FPr hr2 (by rfl) mPr kPr bPr .nil ae (@aj _ _ _ _ _ (pv 2) af rfl)) rfl (Or.inl rfl))
   (ai (@aJ _ _ 4 _ _ _ _ dk.nd rfl (Or.inl rfl) (ed W.MF W.FFI hr3 (by rfl) W.cF.mgC W.bFFI .nil ae (@aj _ _ _ _ _ (pv 3) af rfl)) rfl (Or.inl rfl))
   (ai (@aJ _ _ 5 _ _ _ _ dk.nd rfl (Or.inl rfl) (av FLt hr3 (by rfl) mLt kLt bLt .nil ae (@aj _ _ _ _ _ (pv 2) (@aj _ _ _ _ _ (pv 3) af rfl) rfl)) rfl (Or.inl rfl))
   (ai (@aJ _ _ 6 _ _ _ _ dk.nd rfl (Or.inl rfl) (av FLt hr3 (by rfl) mLt kLt bLt .nil ae (@aj _ _ _ _ _ (pv 2) (@aj _ _ _ _ _ (pv 3) af rfl) rfl)) rfl (Or.inl rfl))
   (ai (bt (@aE _ _ _ _ _ _ _ _ cx (av FTk hr1 (by rfl) mTk kTk bTk .nil ae (@aj _ _ _ _ _ (pv 2) (@aj _ _ _ _ _ ah af rfl) rfl)) ah (ax _)) (aq (@aJ _ _ 6 _ _ _ _ dk.nd rfl (Or.inl rfl) (av FPt hr4 (by rfl) mPt kPt bPt .nil ae (@aj _ _ _ _ _ (pv 3) (@aj _ _ _ _ _ (pv 2) (@aj _ _ _ _ _ (pv 5) af rfl) rfl) rfl)) rfl (Or.inl rfl))) aO)
   (uU hr10 W))))))))
   (aq (az gI))),?_⟩
  refine ⟨_,rfl,a,_,rfl,.inl scr.sq,_,_,rfl,_,_,rfl,_,rfl,?_,?_,?_⟩
  ·rw [List.length_map]
   split <;> split <;> omega
  ·rw [List.length_map]
   split <;> split <;> omega
  refine sr (lo:=0) (fun i σ H'=>∃ (o1 o2 o3 o4 o5 o6 o7 o8 o9 o10 o11:Option V),σ=[some (.ref a),o1,o2,o3,o4,o5,o6,o7,o8,o9,o10,o11]∧wc K H' a ns) ⟨none,none,none,none,none,none,none,none,none,none,none,rfl,scr⟩ ?_ ?_
  ·rintro i σ G0 hi ⟨o1,o2,o3,o4,o5,o6,o7,o8,o9,o10,o11,rfl,sc0⟩
   have hi60:i < 60:=by
    rw [List.length_map] at hi
    split at hi <;> split at hi <;> omega
   refine ⟨_,rfl,_,rfl,a,ns,0 + (i:Int),rfl,sc0.sq,hlen,by omega,by omega,fun r l1 r1 hr0 hr1 hr2=>?_⟩
   have S1:=ak (o:=.lst [.int l1,.int r1]) hr0
   have sc1:=sc0.same S1
   have R1:a9 (upd G0 r (.lst [.int l1,.int r1])) r:=⟨l1,r1,ag,hr1,hr2⟩
   generalize (upd G0 r (.lst [.int l1,.int r1]))=G1 at sc1 R1 ⊢
   clear sc0 hr0 S1
   refine ⟨_,rfl,r,rfl,R1,fun p G2 hp R2 S2=>?_⟩
   have sc2:=sc1.but R1 S2
   clear sc1 S2 R1
   refine ⟨_,rfl,fun fl dxf hfl hdxf ne=>?_⟩
   refine jb hfl hdxf ne hp fun G3 S3 e3=>?_
   have R3:=R2.same S3
   have sc3:=sc2.same S3
   have nfr:fl≠r:=fun z=>by
    obtain ⟨_,_,e,_⟩:=R3
    rw [z,e] at e3
    cases e3
   clear hfl hdxf ne S3 R2 sc2
   refine ⟨_,rfl,_,rfl,r,p,rfl,R3,hp,fun L ys ts G4 hL0 hL ht h6 tg R4 S4=>?_⟩
   have e4:=S4 _ _ e3 nfr
   have sc4:=sc3.but R3 S4
   have nL:L≠r:=R3.ne hL0
   clear S4 R3 sc3 e3 hL0
   refine ⟨_,rfl,_,rfl,r,p,rfl,R4,hp,fun M us vs G5 hM0 hM hv v6 vg R5 S5=>?_⟩
   have k5:=R4.keepT S5
   have e5:=S5 _ _ e4 nfr
   have sc5:=sc4.but R4 S5
   have hL5:=S5 _ _ hL nL
   have ht5:=aZ.keep ht k5
   have nM:M≠r:=R4.ne hM0
   clear S5 R4 sc4 e4 hM0 hL ht k5
   refine ⟨_,rfl,?_⟩
   obtain ⟨lq1,xq1,hq1,yq1,zq1⟩:=id R5
   refine ⟨_,lq1,xq1,2,rfl,hq1,yq1,zq1,by decide,by decide,fun z lp1 xp1 z0 z1 yp1 zp1=>?_⟩
   have R6:a9 (upd G5 r (.lst [.int lp1,.int xp1])) r:=⟨lp1,xp1,ag,yp1,zp1⟩
   have sb6:SameBut r G5 (upd G5 r (.lst [.int lp1,.int xp1])):=SameBut.upd
   generalize upd G5 r (.lst [.int lp1,.int xp1])=G6 at R6 sb6 ⊢
   have k6:=R5.keepT sb6
   have e6:=sb6 _ _ e5 nfr
   have sc6:=sc5.but R5 sb6
   have hL6:=sb6 _ _ hL5 nL
   have ht6:=aZ.keep ht5 k6
   have hM6:=sb6 _ _ hM nM
   have hv6:=aZ.keep hv k6
   refine ⟨rfl,_,rfl,?_⟩
   refine bF (fun _=>?_) (fun _=>?_)
   ·refine ⟨_,rfl,_,rfl,_,rfl,r,L,p,ys,ts,rfl,R6,hp,hL6,nL,ht6,h6,tg,fun N us' vs' G7 hN0 hN hv' v12 vg' R7 S7=>?_⟩
    have k7:=R6.keepT S7
    refine ⟨fl,dxf,L,N,p,ys,us',ts,vs',_,_,_,_,_,_,_,_,rfl,S7 _ _ e6 nfr,hp,S7 _ _ hL6 nL,aZ.keep ht6 k7,by omega,fun t h=>(tg t h).mono (by decide),hN,hv',v12,vg',fun a b c d e H9 s9=>?_⟩
    exact ⟨_,_,_,_,_,_,_,_,_,_,_,rfl,(sc6.but R6 S7).same s9⟩
   ·refine ⟨fl,dxf,L,M,p,ys,us,ts,vs,_,_,_,_,_,_,_,_,rfl,e6,hp,hL6,ht6,by omega,fun t h=>(tg t h).mono (by decide),hM6,hv6,by omega,fun t h=>(vg t h).mono (by decide),fun a b c d e H9 s9=>?_⟩
    exact ⟨_,_,_,_,_,_,_,_,_,_,_,rfl,sc6.same s9⟩
  ·rintro σ H' ⟨o1,o2,o3,o4,o5,o6,o7,o8,o9,o10,o11,rfl,_⟩
   exact fin H'
end
end K05
namespace Hd
open PySem PySem.W PyProof.Rows
def lW (K:Frag)(x qual:Str)(st:Stmt)(f:Addr):Prop:=∃ (oc:Value)(od:Option Addr)(kV doc pm:Value)(an:Option Addr)(cdv ct:Value)(osl:Array (Option Value)),
 K.lookup f=some ⟨oc,od,.func (fnOf x qual (L2.cC st) (L2.bV st) (L2.ao st) .none kV doc pm an cdv ct),osl⟩∧codeIn K cdv qual=true∧keepIn K (.ref f)=true
theorem aL {K:Frag}{v:Option (Option Value)}{x qual:Str}{st:Stmt}(h:aW K v=c9 x qual st)(b:cU K v qual=true):v=some (some (.ref (c4 v)))∧lW K x qual st (c4 v):=by
 unfold aW at h
 obtain ⟨fd,e,s⟩:=Option.map_eq_some_iff.mp (show (l8 K v).map zz=some _ from h)
 unfold cU at b
 rw [e] at b
 rw [Bool.and_eq_true] at b
 unfold l8 at e
 split at e
 ·rename_i f
  split at e
  ·rename_i oc od fd' osl hl
   cases e
   refine ⟨rfl,oc,od,fd.kwdefaults,fd.doc,fd.pyModule,fd.annotations,fd.code,fd.closureTuple,osl,?_,b.2,b.1⟩
   show K.lookup f=_
   rw [hl]
   obtain ⟨n,q,p,bd,sc,g,c,dv,kv,dc,pm,an,cd,ct,bl⟩:=fd
   unfold zz at s
   simp only [Prod.mk.injEq] at s
   obtain ⟨rfl,rfl,rfl,rfl,rfl,rfl,rfl,rfl,rfl⟩:=s
   rfl
  ·cases e
 ·cases e
theorem lW.fn {K:Frag}{x qual:Str}{st:Stmt}{f:Addr}(d:lW K x qual st f):∃ fd,L2.Fun K x qual st f fd:=by
 obtain ⟨oc,od,kV,doc,pm,an,cdv,ct,osl,l,c,k⟩:=d
 exact ⟨_,L2.zq l c k⟩
theorem lW.keep {K:Frag}{x qual:Str}{st:Stmt}{f:Addr}(d:lW K x qual st f):keepIn K (.ref f)=true:=by
 obtain ⟨oc,od,kV,doc,pm,an,cdv,ct,osl,l,c,k⟩:=d
 exact k
end Hd
namespace L2
open PySem PySem.Spec PyProof.Rows PySem.W
end L2
namespace Hd
open PySem PySem.W PyProof.Rows
def uQ (K:Frag)(x qual:Str)(st:Stmt)(f T:Addr):Prop:=∃ (oc:Value)(od:Option Addr)(kV doc pm:Value)(an:Option Addr)(cdv ct:Value)(osl:Array (Option Value)),
 K.lookup f=some ⟨oc,od,.func (fnOf x qual (L2.cC st) (L2.bV st) (L2.ao st) (.ref T) kV doc pm an cdv ct),osl⟩∧codeIn K cdv qual=true∧keepIn K (.ref f)=true
theorem kI {K:Frag}{v:Option (Option Value)}{x qual:Str}{st:Stmt}(h:gk K v=c9 x qual st)(b:cU K v qual=true)(d:rZ K v=true):v=some (some (.ref (c4 v)))∧uQ K x qual st (c4 v) (nK K v):=by
 unfold gk at h
 obtain ⟨fd,e,s⟩:=Option.map_eq_some_iff.mp (show (l8 K v).map (fun fd=>zz { fd with defaults:=.none })=some _ from h)
 have hd:fd.defaults = .ref (nK K v):=by
  unfold rZ AX at d
  unfold nK AX
  rw [e] at d ⊢
  dsimp only at d ⊢
  cases q:fd.defaults with
  | ref a=>rfl
  | _=>rw [q] at d; cases d
 unfold cU at b
 rw [e] at b
 rw [Bool.and_eq_true] at b
 generalize nK K v=T at hd
 unfold l8 at e
 split at e
 ·rename_i f
  split at e
  ·rename_i oc od fd' osl hl
   cases e
   refine ⟨rfl,oc,od,fd.kwdefaults,fd.doc,fd.pyModule,fd.annotations,fd.code,fd.closureTuple,osl,?_,b.2,b.1⟩
   show K.lookup f=_
   rw [hl]
   obtain ⟨n,q,p,bd,sc,g,c,dv,kv,dc,pm,an,cd,ct,bl⟩:=fd
   unfold zz at s
   simp only [Prod.mk.injEq] at s
   have hd:dv = .ref T:=hd
   subst hd
   obtain ⟨rfl,rfl,rfl,rfl,rfl,rfl,rfl,_,rfl⟩:=s
   rfl
  ·cases e
 ·cases e
theorem uQ.fn {K:Frag}{x qual:Str}{st:Stmt}{f T:Addr}(d:uQ K x qual st f T):∃ fd,L2.FunD K x qual st f fd T:=by
 obtain ⟨oc,od,kV,doc,pm,an,cdv,ct,osl,l,c,k⟩:=d
 exact ⟨_,L2.xo l c k⟩
theorem uQ.keep {K:Frag}{x qual:Str}{st:Stmt}{f T:Addr}(d:uQ K x qual st f T):keepIn K (.ref f)=true:=by
 obtain ⟨oc,od,kV,doc,pm,an,cdv,ct,osl,l,c,k⟩:=d
 exact k
theorem mX:∀ {vs:List Value}{ns:List Int},qu vs ns=true->L2.aI (ns.map L2.V.int) vs
 | [],[],_=>.nil
 | v :: vs,n :: ns,h=>by
   unfold qu at h
   rw [Bool.and_eq_true] at h
   obtain ⟨t,rfl⟩:=iu h.1
   exact .cons ⟨t,rfl⟩ (mX h.2)
 | [],_ :: _,h=>by cases h
 | _ :: _,[],h=>by cases h
theorem qz {K:Frag}{a:Addr}{ns:List Int}(h:vH K a ns=true)(H:L2.Hp):L2.bg K H a (ns.map L2.V.int):=by
 unfold vH at h
 split at h
 ·rename_i o ho
  rw [Bool.and_eq_true] at h
  obtain ⟨h1,h2⟩:=h
  split at h1
  ·rename_i T hT
   split at h2
   ·rename_i its n hd
    rw [Bool.and_eq_true] at h2
    have:T="tuple":=by simpa using h1
    subst this
    exact .inr ⟨o,its,n,ho,hT,hd,of_decide_eq_true h2.2,mX h2.1⟩
   ·cases h2
  ·cases h1
 ·cases h
open L2 in
theorem rg {l:OpenLaw}{n k:Nat}{q:Program}{loose:List Str}{XP:(Str->Option Value)->Heap->Prop}{YP:World->Heap->Prop}{d:DefRec}{CX:World->CXT}{sp:Frag->Sp}{x:Str}{φ:Frag->Prop}{tabs:Frag->List (Addr × Addr)}
 (hn:l.most=some n)(hn2:n≤sizeLine)(hdf:d.params.defaults=[])(hr:Room k callerA)
 (hY:∀ (w:World)(h:Heap),YP w h->∃ K:Frag,φ K∧K.In h)
 (hT:∀ (w:World)(s₀:Shared)(mg mb:Str->Option Value)(h:Heap)(K:Frag),φ K->Ground q loose [] XP w s₀ mg mb h->K.In h->TabsAt (tabs K) h∧∀ r∈tabs K,K.lookup r.2=none)
 (F:∀ (w:World)(K:Frag)(mg:Str->Option Value)(fa:Addr)(h:Heap),φ K->K.In h->h.Ns mainGlobals mg->mg d.name=some (.ref fa) →
  ∃ fd:FuncData,(∀ (s:Shared)(u:Value),BindsTo s fd ⟨[u],[]⟩ [(x,u)])∧∀ base:Heap,K.In base->base.Ns mainGlobals mg->BaseT (tabs K) mg base->FnOk l.prog w K mg base (CX w) k fa fd [x] (sp K))
 (hsp:∀ (K:Frag)(H:Hp)(a:Addr)(ns:List Int),ns.length≤n->ui (tabs K) H->a7 K H a (ns.map V.int)->sp K [.ref a] H (fun v _=>v = .bl true) fun _ _ _=>False)
 (hCX:∀ (w:World)(H:Hp)(s:Shared)(e:Value)(s':Shared),CX w [] H s (fun _ _ _=>False) e s'->False):
 WalkO q loose XP YP l.row.toRowW d [] (fun f vs=>PySem.call f vs):=by
 refine Att.me hn hdf fun w s₀ s₁ mg mb fa o pm cd doc a vs ns G Y ho hd hcd hmg hobj hints hlen hg=>?_
 obtain ⟨K,hφ,KX⟩:=hY w _ Y
 obtain ⟨fd,hb,hF⟩:=F w K mg fa _ hφ KX G.T.g hmg
 obtain ⟨t1,t2⟩:=hT w s₀ mg mb _ K hφ G KX
 exact rj KX G.T.g G.T.b G.T.builtins G.T.nolimit hg hobj hints (Nat.le_trans hlen hn2) hr t1 t2 G.T.bmain hF hb (fun H hO hS=>hsp K H a ns hlen hO hS) fun H e s'=>hCX w H s₁ e s'
end Hd
namespace K05
open PySem L2 PySem.W Nm
open Hd (gv ga fv c4 gM di cE aX jw cJ oE fb cU aW gk c9 rZ nK tj hZ u9 kZ isI iu lO d3 vH aL kI qz)
section
variable {K:Frag}{f T:Addr}{fd:FuncData}{oT:Obj}{t:Tok}{n:Nat}
theorem AB:Stp 10000000000000000000000000000000000000000000000000000000000000000:=⟨by decide +kernel⟩
theorem zI (F:FunD K "__init__" "Field.__init__" vB f fd T)(lT:K.lookup T=some oT)(dT:oT.data = .seq #[.int 0 t] n):L2.ay K fd ["self","prime"] []:=by
 obtain ⟨oc,od,kV,doc,pm,an,cdv,ct,osl,rfl,lk,hcd⟩:=F.ex
 intro s us KX hl
 cases us with
 | nil=>simp at hl
 | cons a0 r1 =>
   cases r1 with
   | nil=>simp at hl
   | cons a1 r2 =>
     cases r2 with
     | nil=>exact binds_K KX rfl lT dT rfl rfl
     | cons a r=>simp at hl
theorem yC (F:FunD K "__init__" "Sum.__init__" oG f fd T)(lT:K.lookup T=some oT)(dT:oT.data = .seq #[.none] n):L2.ay K fd ["self","field","terms"] []:=by
 obtain ⟨oc,od,kV,doc,pm,an,cdv,ct,osl,rfl,lk,hcd⟩:=F.ex
 intro s us KX hl
 cases us with
 | nil=>simp at hl
 | cons a0 r1 =>
   cases r1 with
   | nil=>simp at hl
   | cons a1 r2 =>
     cases r2 with
     | nil=>simp at hl
     | cons a2 r3 =>
       cases r3 with
       | nil=>exact binds_K KX rfl lT dT rfl rfl
       | cons a r=>simp at hl
end
def vn (_:World)(h:Heap):Prop:=∃ K:Frag,rM K=dueK∧K.In h
theorem xj (w:World)(s:Shared)(e:rM (Hd.uz pq s.heap)=dueK):vn w s.heap:=⟨_,e,Hd.kJ _ _⟩
theorem oF (w:World)(h h':Heap)(y:vn w h)(k:∀ (b:Addr)(o:Obj),h.get? b=some o->h'.get? b=some o):vn w h':=let ⟨K,e,i⟩:=y; ⟨K,e,fun a o q=>k a o (i a o q)⟩
set_option maxHeartbeats 0 in
theorem pe {l:OpenLaw}{w:World}{K:Frag}{mg:Str->Option Value}{h:Heap}{fa:Addr}(o:rM K=dueK)(X:K.In h)(G:h.Ns mainGlobals mg)(hfa:mg "law"=some (.ref fa)):
 ∃ fd:FuncData,(∀ (s:Shared)(v:Value),BindsTo s fd ⟨[v],[]⟩ [("_law_script",v)])∧∀ base:Heap,K.In base->base.Ns mainGlobals mg->BaseT [] mg base->FnOk l.prog w K mg base (bh l.prog w) 11 fa fd ["_law_script"] (vh K):=by
 obtain ⟨o1,o2⟩:=Prod.mk.inj (show (pM K,_)=(true,_) from o)
 simp only [List.cons.injEq,and_true] at o2
 obtain ⟨s0,s1,s2,s3,s4,s5,s6,s7,s8,s9,s10,s11,s12,s13,s14,s15,s16,s17,s18,s19,s20,s21,s22,s23,s24,s25,s26,s27,s28,s29,s30,s31,s32,s33,s34,s35,s36,s37,s38⟩:=o2
 unfold pM at o1
 simp only [Bool.and_eq_true] at o1
 obtain ⟨g0,g1,g2,g3,g4,g5,g6⟩:=o1
 unfold BM at g0
 simp only [Bool.and_eq_true] at g0
 obtain ⟨h0,h1,h2,h3,h4,h5,h6,h7,h8,h9,h10,h11,h12,h13,h14,h15⟩:=g0
 unfold BQ at g1
 simp only [Bool.and_eq_true] at g1
 obtain ⟨h16,h17,h18,h19,h20,h21,h22,h23,h24,h25,h26,h27,h28,h29,h30,h31⟩:=g1
 unfold BL at g2
 simp only [Bool.and_eq_true] at g2
 obtain ⟨h32,h33,h34,h35,h36,h37,h38,h39,h40,h41,h42,h43,h44,h45,h46,h47⟩:=g2
 unfold BN at g3
 simp only [Bool.and_eq_true] at g3
 obtain ⟨h48,h49,h50,h51,h52,h53,h54,h55,h56,h57,h58,h59,h60,h61,h62,h63⟩:=g3
 unfold BS at g4
 simp only [Bool.and_eq_true] at g4
 obtain ⟨h64,h65,h66,h67,h68,h69,h70,h71,h72,h73,h74,h75,h76,h77,h78,h79⟩:=g4
 unfold BV at g5
 simp only [Bool.and_eq_true] at g5
 obtain ⟨h80,h81,h82,h83,h84,h85,h86,h87,h88,h89,h90,h91,h92,h93,h94,h95⟩:=g5
 unfold BP at g6
 simp only [Bool.and_eq_true] at g6
 obtain ⟨h96,h97,h98,h99,h100,h101,h102,h103,h104,h105,h106,h107,h108⟩:=g6
 have m:=fun {n:Str}{v:Value}(e:nsIn K mainGlobals n=some (some v))=>mg_of X G e
 have m0:=fun {n:Str}(e:nsIn K mainGlobals n=some none)=>mg_none_of X G e
 have m_isinstance:=m0 (aX h0)
 have m_int:=m0 (aX h1)
 have m_bool:=m0 (aX h2)
 have m_abs:=m0 (aX h3)
 have m_len:=m0 (aX h4)
 have m_tuple:=m0 (aX h5)
 have m_all:=m0 (aX h6)
 have m_zip:=m0 (aX h7)
 have m_list:=m0 (aX h8)
 have m_enumerate:=m0 (aX h9)
 have m_sorted:=m0 (aX h10)
 have m_max:=m0 (aX h11)
 have m_min:=m0 (aX h12)
 have m_set:=m0 (aX h13)
 have m_range:=m0 (aX h14)
 have m_repr:=m0 (aX h15)
 have m_str:=m0 (aX h16)
 have m_divmod:=m0 (aX h17)
 have r_Sum:=m (di h18)
 have r_Field:=m (di h19)
 have r_NoField:=m (di h20)
 have r_PRIMES:=m (di h21)
 obtain ⟨t_FRACTIONS,q_FRACTIONS⟩:=d3 h22
 have g_FRACTIONS:=m q_FRACTIONS
 obtain ⟨t_MOST_PLACES,q_MOST_PLACES⟩:=d3 h23
 have g_MOST_PLACES:=m q_MOST_PLACES
 obtain ⟨t_STEP,q_STEP⟩:=d3 h24
 have g_STEP:=m q_STEP
 obtain ⟨t_STEP_FIGURES,q_STEP_FIGURES⟩:=d3 h25
 have g_STEP_FIGURES:=m q_STEP_FIGURES
 obtain ⟨e_a0,d_a0⟩:=aL s0 h26
 have mg_a0:=m e_a0
 have k_a0:=d_a0.keep
 obtain ⟨fd_a0,F_a0⟩:=d_a0.fn
 have b_a0:=F_a0.binds (ps:=["thing"]) fun _ _ _ _ _ _ us hl=>match us,hl with | [_],_=>rfl
 obtain ⟨e_a1,d_a1⟩:=aL s1 h27
 have mg_a1:=m e_a1
 have k_a1:=d_a1.keep
 obtain ⟨fd_a1,F_a1⟩:=d_a1.fn
 have b_a1:=F_a1.binds (ps:=["thing"]) fun _ _ _ _ _ _ us hl=>match us,hl with | [_],_=>rfl
 obtain ⟨e_a2,d_a2⟩:=aL s2 h28
 have mg_a2:=m e_a2
 have k_a2:=d_a2.keep
 obtain ⟨fd_a2,F_a2⟩:=d_a2.fn
 have b_a2:=F_a2.binds (ps:=["thing"]) fun _ _ _ _ _ _ us hl=>match us,hl with | [_],_=>rfl
 obtain ⟨e_a3,d_a3⟩:=aL s3 h29
 have mg_a3:=m e_a3
 have k_a3:=d_a3.keep
 obtain ⟨fd_a3,F_a3⟩:=d_a3.fn
 have b_a3:=F_a3.binds (ps:=["field","thing"]) fun _ _ _ _ _ _ us hl=>match us,hl with | [_,_],_=>rfl
 obtain ⟨e_a4,d_a4⟩:=aL s4 h30
 have mg_a4:=m e_a4
 have k_a4:=d_a4.keep
 obtain ⟨fd_a4,F_a4⟩:=d_a4.fn
 have b_a4:=F_a4.binds (ps:=["field","terms"]) fun _ _ _ _ _ _ us hl=>match us,hl with | [_,_],_=>rfl
 obtain ⟨e_a5,d_a5⟩:=aL s5 h31
 have mg_a5:=m e_a5
 have k_a5:=d_a5.keep
 obtain ⟨fd_a5,F_a5⟩:=d_a5.fn
 have b_a5:=F_a5.binds (ps:=["term"]) fun _ _ _ _ _ _ us hl=>match us,hl with | [_],_=>rfl
 obtain ⟨e_a6,d_a6⟩:=aL s6 h32
 have mg_a6:=m e_a6
 have k_a6:=d_a6.keep
 obtain ⟨fd_a6,F_a6⟩:=d_a6.fn
 have b_a6:=F_a6.binds (ps:=["field","terms"]) fun _ _ _ _ _ _ us hl=>match us,hl with | [_,_],_=>rfl
 obtain ⟨e_a7,d_a7⟩:=aL s7 h33
 have mg_a7:=m e_a7
 have k_a7:=d_a7.keep
 obtain ⟨fd_a7,F_a7⟩:=d_a7.fn
 have b_a7:=F_a7.binds (ps:=["one","other"]) fun _ _ _ _ _ _ us hl=>match us,hl with | [_,_],_=>rfl
 obtain ⟨e_a8,d_a8⟩:=aL s8 h34
 have mg_a8:=m e_a8
 have k_a8:=d_a8.keep
 obtain ⟨fd_a8,F_a8⟩:=d_a8.fn
 have b_a8:=F_a8.binds (ps:=["top","bottom"]) fun _ _ _ _ _ _ us hl=>match us,hl with | [_,_],_=>rfl
 obtain ⟨e_a9,d_a9⟩:=aL s9 h35
 have mg_a9:=m e_a9
 have k_a9:=d_a9.keep
 obtain ⟨fd_a9,F_a9⟩:=d_a9.fn
 have b_a9:=F_a9.binds (ps:=["number"]) fun _ _ _ _ _ _ us hl=>match us,hl with | [_],_=>rfl
 obtain ⟨e_a10,d_a10⟩:=aL s10 h36
 have mg_a10:=m e_a10
 have k_a10:=d_a10.keep
 obtain ⟨fd_a10,F_a10⟩:=d_a10.fn
 have b_a10:=F_a10.binds (ps:=["number"]) fun _ _ _ _ _ _ us hl=>match us,hl with | [_],_=>rfl
 obtain ⟨e_a11,d_a11⟩:=aL s11 h37
 have mg_a11:=m e_a11
 have k_a11:=d_a11.keep
 obtain ⟨fd_a11,F_a11⟩:=d_a11.fn
 have b_a11:=F_a11.binds (ps:=["names","product","number"]) fun _ _ _ _ _ _ us hl=>match us,hl with | [_,_,_],_=>rfl
 obtain ⟨e_a12,d_a12⟩:=aL s12 h38
 have mg_a12:=m e_a12
 have k_a12:=d_a12.keep
 obtain ⟨fd_a12,F_a12⟩:=d_a12.fn
 have b_a12:=F_a12.binds (ps:=["names","terms"]) fun _ _ _ _ _ _ us hl=>match us,hl with | [_,_],_=>rfl
 obtain ⟨e_a13,d_a13⟩:=aL s13 h39
 have mg_a13:=m e_a13
 have k_a13:=d_a13.keep
 obtain ⟨fd_a13,F_a13⟩:=d_a13.fn
 have b_a13:=F_a13.binds (ps:=[]) fun _ _ _ _ _ _ us hl=>match us,hl with | [],_=>rfl
 obtain ⟨e_a14,d_a14⟩:=aL s14 h40
 have mg_a14:=m e_a14
 have k_a14:=d_a14.keep
 obtain ⟨fd_a14,F_a14⟩:=d_a14.fn
 have b_a14:=F_a14.binds (ps:=["_law_script","_law_k"]) fun _ _ _ _ _ _ us hl=>match us,hl with | [_,_],_=>rfl
 obtain ⟨e_a15,d_a15⟩:=aL s15 h41
 have mg_a15:=m e_a15
 have k_a15:=d_a15.keep
 obtain ⟨fd_a15,F_a15⟩:=d_a15.fn
 have b_a15:=F_a15.binds (ps:=["_law_room_here","_law_many"]) fun _ _ _ _ _ _ us hl=>match us,hl with | [_,_],_=>rfl
 obtain ⟨e_a16,d_a16⟩:=aL s16 h42
 have mg_a16:=m e_a16
 have k_a16:=d_a16.keep
 obtain ⟨fd_a16,F_a16⟩:=d_a16.fn
 have b_a16:=F_a16.binds (ps:=["_law_top","_law_bottom"]) fun _ _ _ _ _ _ us hl=>match us,hl with | [_,_],_=>rfl
 obtain ⟨e_a17,d_a17⟩:=aL s17 h43
 have mg_a17:=m e_a17
 have k_a17:=d_a17.keep
 obtain ⟨fd_a17,F_a17⟩:=d_a17.fn
 have b_a17:=F_a17.binds (ps:=["_law_prime_here","_law_top","_law_bottom"]) fun _ _ _ _ _ _ us hl=>match us,hl with | [_,_,_],_=>rfl
 obtain ⟨e_a18,d_a18⟩:=aL s18 h44
 have mg_a18:=m e_a18
 have k_a18:=d_a18.keep
 obtain ⟨fd_a18,F_a18⟩:=d_a18.fn
 have b_a18:=F_a18.binds (ps:=["_law_prime_here","_law_one","_law_other"]) fun _ _ _ _ _ _ us hl=>match us,hl with | [_,_,_],_=>rfl
 obtain ⟨e_a19,d_a19⟩:=aL s19 h45
 have mg_a19:=m e_a19
 have k_a19:=d_a19.keep
 obtain ⟨fd_a19,F_a19⟩:=d_a19.fn
 have b_a19:=F_a19.binds (ps:=["_law_prime_here","_law_one","_law_other"]) fun _ _ _ _ _ _ us hl=>match us,hl with | [_,_,_],_=>rfl
 obtain ⟨e_a20,d_a20⟩:=aL s20 h46
 have mg_a20:=m e_a20
 have k_a20:=d_a20.keep
 obtain ⟨fd_a20,F_a20⟩:=d_a20.fn
 have b_a20:=F_a20.binds (ps:=["_law_room_here"]) fun _ _ _ _ _ _ us hl=>match us,hl with | [_],_=>rfl
 obtain ⟨e_a21,d_a21⟩:=aL s21 h47
 have mg_a21:=m e_a21
 have k_a21:=d_a21.keep
 obtain ⟨fd_a21,F_a21⟩:=d_a21.fn
 have b_a21:=F_a21.binds (ps:=["_law_room_here","_law_prime_here"]) fun _ _ _ _ _ _ us hl=>match us,hl with | [_,_],_=>rfl
 obtain ⟨e_a22,d_a22⟩:=aL s22 h48
 have mg_a22:=m e_a22
 have k_a22:=d_a22.keep
 obtain ⟨fd_a22,F_a22⟩:=d_a22.fn
 have b_a22:=F_a22.binds (ps:=["_law_prime_here","_law_terms_here"]) fun _ _ _ _ _ _ us hl=>match us,hl with | [_,_],_=>rfl
 obtain ⟨e_a23,d_a23⟩:=aL s23 h49
 have mg_a23:=m e_a23
 have k_a23:=d_a23.keep
 obtain ⟨fd_a23,F_a23⟩:=d_a23.fn
 have b_a23:=F_a23.binds (ps:=["_law_room_here","_law_prime_here"]) fun _ _ _ _ _ _ us hl=>match us,hl with | [_,_],_=>rfl
 obtain ⟨e_a24,d_a24⟩:=aL s24 h50
 have mg_a24:=m e_a24
 have k_a24:=d_a24.keep
 obtain ⟨fd_a24,F_a24⟩:=d_a24.fn
 have b_a24:=F_a24.binds (ps:=["_law_terms_here"]) fun _ _ _ _ _ _ us hl=>match us,hl with | [_],_=>rfl
 obtain ⟨e_a25,d_a25⟩:=aL s25 h51
 have mg_a25:=m e_a25
 have k_a25:=d_a25.keep
 obtain ⟨fd_a25,F_a25⟩:=d_a25.fn
 have b_a25:=F_a25.binds (ps:=["_law_prime_here","_law_room_here","_law_terms_here"]) fun _ _ _ _ _ _ us hl=>match us,hl with | [_,_,_],_=>rfl
 obtain ⟨e_a26,d_a26⟩:=aL s26 h52
 have mg_a26:=m e_a26
 have k_a26:=d_a26.keep
 obtain ⟨fd_a26,F_a26⟩:=d_a26.fn
 have b_a26:=F_a26.binds (ps:=["_law_one","_law_prime_here","_law_terms_here"]) fun _ _ _ _ _ _ us hl=>match us,hl with | [_,_,_],_=>rfl
 obtain ⟨e_a27,d_a27⟩:=aL s27 h53
 have mg_a27:=m e_a27
 have e_fa:=hfa.symm.trans mg_a27
 cases e_fa
 have k_a27:=d_a27.keep
 obtain ⟨fd_a27,F_a27⟩:=d_a27.fn
 have b_a27:=F_a27.binds (ps:=["_law_script"]) fun _ _ _ _ _ _ us hl=>match us,hl with | [_],_=>rfl
 obtain ⟨e_sq,d_sq⟩:=aL s28 h54
 have i_sq:=h55
 have M_sq:L2.Meth K _ "__eq__" _:=⟨e_sq,h55,d_sq.keep⟩
 obtain ⟨fd_sq,F_sq⟩:=d_sq.fn
 have b_sq:=F_sq.binds (ps:=["self","other"]) fun _ _ _ _ _ _ us hl=>match us,hl with | [_,_],_=>rfl
 obtain ⟨e_ln,d_ln⟩:=aL s29 h56
 have i_ln:=h57
 have M_ln:L2.Meth K _ "__len__" _:=⟨e_ln,h57,d_ln.keep⟩
 obtain ⟨fd_ln,F_ln⟩:=d_ln.fn
 have b_ln:=F_ln.binds (ps:=["self"]) fun _ _ _ _ _ _ us hl=>match us,hl with | [_],_=>rfl
 obtain ⟨e_ss,d_ss⟩:=aL s30 h58
 have i_ss:=h59
 have M_ss:L2.Meth K _ "__str__" _:=⟨e_ss,h59,d_ss.keep⟩
 obtain ⟨fd_ss,F_ss⟩:=d_ss.fn
 have b_ss:=F_ss.binds (ps:=["self"]) fun _ _ _ _ _ _ us hl=>match us,hl with | [_],_=>rfl
 obtain ⟨e_sr,d_sr⟩:=aL s31 h60
 have i_sr:=h61
 have M_sr:L2.Meth K _ "__repr__" _:=⟨e_sr,h61,d_sr.keep⟩
 obtain ⟨fd_sr,F_sr⟩:=d_sr.fn
 have b_sr:=F_sr.binds (ps:=["self"]) fun _ _ _ _ _ _ us hl=>match us,hl with | [_],_=>rfl
 obtain ⟨e_eq,d_eq⟩:=aL s32 h62
 have i_eq:=h63
 have M_eq:L2.Meth K _ "__eq__" _:=⟨e_eq,h63,d_eq.keep⟩
 obtain ⟨fd_eq,F_eq⟩:=d_eq.fn
 have b_eq:=F_eq.binds (ps:=["self","other"]) fun _ _ _ _ _ _ us hl=>match us,hl with | [_,_],_=>rfl
 obtain ⟨e_pl,d_pl⟩:=aL s33 h64
 have i_pl:=h65
 have M_pl:L2.Meth K _ "plus" _:=⟨e_pl,h65,d_pl.keep⟩
 obtain ⟨fd_pl,F_pl⟩:=d_pl.fn
 have b_pl:=F_pl.binds (ps:=["self","one","other"]) fun _ _ _ _ _ _ us hl=>match us,hl with | [_,_,_],_=>rfl
 obtain ⟨e_se,d_se⟩:=aL s34 h66
 have i_se:=h67
 have M_se:L2.Meth K _ "settled" _:=⟨e_se,h67,d_se.keep⟩
 obtain ⟨fd_se,F_se⟩:=d_se.fn
 have b_se:=F_se.binds (ps:=["self","top","bottom"]) fun _ _ _ _ _ _ us hl=>match us,hl with | [_,_,_],_=>rfl
 obtain ⟨e_nu,d_nu⟩:=aL s35 h68
 have i_nu:=h69
 have M_nu:L2.Meth K _ "is_number" _:=⟨e_nu,h69,d_nu.keep⟩
 obtain ⟨fd_nu,F_nu⟩:=d_nu.fn
 have b_nu:=F_nu.binds (ps:=["self","thing"]) fun _ _ _ _ _ _ us hl=>match us,hl with | [_,_],_=>rfl
 obtain ⟨e_fp,d_fp⟩:=aL s36 h70
 have i_fp:=h71
 have M_fp:L2.Meth K _ "prime" _:=⟨e_fp,h71,d_fp.keep⟩
 obtain ⟨fd_fp,F_fp⟩:=d_fp.fn
 have b_fp:=F_fp.binds (ps:=["self"]) fun _ _ _ _ _ _ us hl=>match us,hl with | [_],_=>rfl
 obtain ⟨e_SI,d_SI⟩:=kI s37 h72 h74
 have i_SI:=h73
 have M_SI:L2.Meth K _ "__init__" _:=⟨e_SI,h73,d_SI.keep⟩
 obtain ⟨fd_SI,F_SI⟩:=d_SI.fn
 obtain ⟨o_SI,v_SI,n_SI,lT_SI,dT_SI,pv_SI⟩:=hZ h75
 obtain ⟨e_FI,d_FI⟩:=kI s38 h76 h78
 have i_FI:=h77
 have M_FI:L2.Meth K _ "__init__" _:=⟨e_FI,h77,d_FI.keep⟩
 obtain ⟨fd_FI,F_FI⟩:=d_FI.fn
 obtain ⟨o_FI,v_FI,n_FI,lT_FI,dT_FI,pv_FI⟩:=hZ h79
 have nv_SI:=kZ pv_SI
 subst nv_SI
 obtain ⟨t_FI,nv_FI⟩:=iu pv_FI
 subst nv_FI
 have bSI:=yC F_SI lT_SI dT_SI
 have bFI:=zI F_FI lT_FI dT_FI
 have N:Nones mg:=⟨m_isinstance,m_int,m_bool⟩
 have cF:FieldK K mg (ga K "Field"):=⟨⟨h80,h81,h82,cJ h83⟩,aX h84,r_Field,(Bool.and_eq_true_iff.mpr h85),cJ h86,cJ h87,fb h88,fb h89⟩
 have c:SumK K mg (ga K "Sum"):=⟨⟨h90,h91,h92,cJ h93⟩,aX h94,aX h95,r_Sum⟩
 have cQ:SumQ K mg (ga K "Sum"):=⟨c,(Bool.and_eq_true_iff.mpr h96),cJ h97,cJ h87,fb h88,fb h98⟩
 have hP:=qz h99
 refine ⟨fd_a27,fun s v=>?_,fun base _ _ BT=>?_⟩
 ·obtain ⟨oc,od,kV,doc,pm,an,cdv,ct,osl,rfl,lk,hcd⟩:=F_a27.ex
  exact .of_eq rfl
 have G_a0:=vo (P:=l.prog) (w:=w) (base:=base) F_a0 N
 have G_a7:=yo (P:=l.prog) (w:=w) (base:=base) F_a7 m_abs
 have G_a8:=rE (P:=l.prog) (w:=w) (base:=base) F_a8 G_a7 b_a7 mg_a7 k_a7
 have G_se:=pb (P:=l.prog) (w:=w) (base:=base) F_se cF g_FRACTIONS G_a8 b_a8 mg_a8 k_a8
 have G_pl:=wx (P:=l.prog) (w:=w) (base:=base) F_pl cF G_se b_se M_se
 have G_FI:=xF (P:=l.prog) (w:=w) (base:=base) F_FI cF G_a0 b_a0 mg_a0 k_a0 g_FRACTIONS r_PRIMES hP r_NoField h100
 have G_nu:=mH (P:=l.prog) (w:=w) (base:=base) F_nu cF g_FRACTIONS N m_tuple m_len G_a7 b_a7 mg_a7 k_a7 G_a0 b_a0 mg_a0 k_a0
 have G_eq:=Ah (P:=l.prog) (w:=w) (base:=base) F_eq cF N
 have G_fp:=vP (P:=l.prog) (w:=w) (base:=base) F_fp cF
 have G_a1:=uO (P:=l.prog) (w:=w) (base:=base) F_a1 g_MOST_PLACES G_a0 b_a0 mg_a0 k_a0
 have G_a2:=oo (P:=l.prog) (w:=w) (base:=base) F_a2 m_isinstance m_tuple m_all m_zip G_a1 b_a1 mg_a1 k_a1
 have G_a3:=wR (P:=l.prog) (w:=w) (base:=base) F_a3 cF m_isinstance m_tuple m_len G_a2 b_a2 mg_a2 k_a2 G_nu b_nu M_nu
 have G_a5:=og (P:=l.prog) (w:=w) (base:=base) F_a5 m_len
 have G_a4:=oN (P:=l.prog) (w:=w) (base:=base) F_a4 m_isinstance m_list m_enumerate G_a3 b_a3 mg_a3 k_a3
 have G_a6:=wV (P:=l.prog) (w:=w) (base:=base) F_a6 cF m_sorted G_pl b_pl M_pl G_a5 b_a5 mg_a5
 have G_SI:=ur (P:=l.prog) (w:=w) (base:=base) F_SI c G_a6 b_a6 mg_a6 k_a6 G_a4 b_a4 mg_a4 k_a4
 have MkS:L2.Mk K _ _:=⟨h105,e_SI,i_SI,h106⟩
 have MkF:L2.Mk K _ _:=⟨h107,e_FI,i_FI,h108⟩
 have G_a9:=jE (P:=l.prog) (w:=w) (base:=base) F_a9 m_divmod m_str AB g_STEP g_STEP_FIGURES
 have G_a10:=oy (P:=l.prog) (w:=w) (base:=base) F_a10 m_abs G_a9 b_a9 mg_a9 k_a9
 have G_a11:=kx (P:=l.prog) (w:=w) (base:=base) F_a11 m_abs G_a10 b_a10 mg_a10 k_a10
 have G_a12:=jD (P:=l.prog) (w:=w) (base:=base) F_a12 G_a11 b_a11 mg_a11 k_a11
 have G_a13:=rW (P:=l.prog) (w:=w) (base:=base) F_a13 m_range g_MOST_PLACES
 have G_sq:=yc (P:=l.prog) (w:=w) (base:=base) F_sq cQ cF m_isinstance G_eq b_eq e_eq i_eq
 have G_ln:=wU (P:=l.prog) (w:=w) (base:=base) F_ln c m_len
 have G_ss:=wQ (P:=l.prog) (w:=w) (base:=base) (CF:=ga K "Field") F_ss c m_str G_a12 b_a12 mg_a12 k_a12 G_a13 b_a13 mg_a13 k_a13
 have G_sr:=v7 (P:=l.prog) (w:=w) (base:=base) F_sr c cF m_str G_ss b_ss e_ss i_ss G_fp b_fp M_fp
 have G_a14:=wu (P:=l.prog) (w:=w) (base:=base) F_a14 m_len
 have G_a15:=xn (P:=l.prog) (w:=w) (base:=base) (mg:=mg) F_a15
 have G_a16:=wZ (P:=l.prog) (w:=w) (base:=base) F_a16 m_abs m_int
 have G_a17:=xm (P:=l.prog) (w:=w) (base:=base) F_a17 G_a16 b_a16 mg_a16 k_a16
 have G_a18:=vA (P:=l.prog) (w:=w) (base:=base) F_a18 G_a17 b_a17 mg_a17 k_a17
 have G_a19:=rO (P:=l.prog) (w:=w) (base:=base) F_a19 G_a17 b_a17 mg_a17 k_a17
 have G_a20:=sY (P:=l.prog) (w:=w) (base:=base) F_a20 G_a15 b_a15 mg_a15 k_a15
 have G_a21:=sS (P:=l.prog) (w:=w) (base:=base) F_a21 G_a15 b_a15 mg_a15 k_a15 G_a16 b_a16 mg_a16 k_a16
 have G_a22:=vd (P:=l.prog) (w:=w) (base:=base) F_a22 m_sorted m_len G_a18 b_a18 mg_a18 k_a18
 have G_a23:=qY (P:=l.prog) (w:=w) (base:=base) F_a23 m_range m_sorted m_set m_tuple G_a15 b_a15 mg_a15 k_a15 G_a21 b_a21 mg_a21 k_a21
 have G_a24:=mO (P:=l.prog) (w:=w) (base:=base) F_a24 m_abs m_str m_int
 have G_a25:=oK (P:=l.prog) (w:=w) (base:=base) F_a25 G_a21 b_a21 mg_a21 k_a21 G_a18 b_a18 mg_a18 k_a18 G_a19 b_a19 mg_a19 k_a19
 have G_a26:=rH (P:=l.prog) (w:=w) (base:=base) F_a26 m_str m_repr m_bool G_a24 b_a24 mg_a24 k_a24 G_a22 b_a22 mg_a22 k_a22 G_ss b_ss e_ss i_ss G_sr b_sr e_sr i_sr G_ln b_ln e_ln i_ln (aX h102)
 have W:AllW l.prog w K mg base _ _ _ _ _ _ _:={ c:=cQ,cF:=cF,M:=MkS,FI:=G_SI,bI:=bSI,MF:=MkF,FFI:=G_FI,bFFI:=bFI,eq:=⟨_,_,G_sq,b_sq,e_sq,i_sq⟩,ne:=cJ h101,kf:=fb h103,nf:=h104,str:=⟨_,_,G_ss,b_ss,e_ss,i_ss⟩,room:=⟨_,_,G_a14,b_a14,mg_a14,k_a14⟩,prime:=⟨_,_,G_a20,b_a20,mg_a20,k_a20⟩,terms:=⟨_,_,G_a23,b_a23,mg_a23,k_a23⟩,take:=⟨_,_,G_a15,b_a15,mg_a15,k_a15⟩,parted:=⟨_,_,G_a25,b_a25,mg_a25,k_a25⟩,gather:=⟨_,_,G_a22,b_a22,mg_a22,k_a22⟩,right:=⟨_,_,G_a26,b_a26,mg_a26,k_a26⟩,m_min:=m_min,m_max:=m_max,m_range:=m_range,m_len:=m_len,m_int:=m_int,m_str:=m_str }
 exact yP F_a27 W
theorem walk {l:OpenLaw}{q:Program}{loose:List Str}{XP:(Str->Option Value)->Heap->Prop}{d:DefRec}(hn:l.most=some 63)(hdf:d.params.defaults=[])(hd:d.name="law"):
 WalkO q loose XP vn l.row.toRowW d [] (fun f vs=>PySem.call f vs):=by
 refine Hd.rg (n:=63) (k:=11) (x:="_law_script") (CX:=fun w=>bh l.prog w) (sp:=fun K=>vh K) (φ:=fun K=>rM K=dueK) (tabs:=fun K=>[]) hn (by decide) hdf ⟨rfl,by decide,by decide,rfl⟩ (fun w h y=>y) ?_ (fun w K mg fa h o X G e=>pe o X G (by rw [← hd]; exact e)) ?_ ?_
 ·intro w s₀ mg mb h K o Gr KX
  exact ⟨fun r hr'=>(nomatch hr'),fun r hr'=>(nomatch hr')⟩
 ·intro K H a ns hl hO hS
  refine ⟨a,ns,rfl,?_,hl,fun _=>rfl⟩
  rcases hS with (hS | ⟨o,hS⟩) | hS
  ·rcases hO.1 a with z | ⟨o,xs,z⟩ | ⟨z,_⟩
   ·rw [z] at hS; cases hS
   ·rw [z] at hS; cases hS
   ·rw [z] at hS; cases hS
  ·exact .inl ⟨o,hS⟩
  ·exact .inr hS
 ·intro w H s e s' z
  obtain ⟨a,cls,a0,B,d,H',_,_,_,_,hE⟩:=z
  exact hE.elim
end K05
open PySem PySem.W PyProof.Rows
set_option maxRecDepth 100000 in
set_option maxHeartbeats 0 in
theorem PySem.Challenge.cw_falsesums_k05_sums_alike_and_written_holds : PySem.Challenge.rw_falsesums_k05_sums_alike_and_written.Holds := by
 w_on; o_law
 refine PySem.W.holds_open (r:=PySem.Challenge.rw_falsesums_k05_sums_alike_and_written.row) (q:=K05.fU) (loose:=["STEP","Field"]) (Xt:=fun s=>xlAt K05.fU K05.lv s&&recOk (PySem.Challenge.rw_falsesums_k05_sums_alike_and_written.row.toRowW).records s) (XP:=XL K05.fU K05.lv)
  (Yf:=fun s=>K05.rM (Hd.uz K05.pq s.heap)) (Ya:=fun _=>K05.dueK) (YP:=K05.vn) (N:=6964) ?hl K05.xj K05.oF (fun s e=>xl_of s (Bool.and_eq_true_iff.mp e).1) XL.keeps (by rfl) (by rfl) (by rfl) (fun s e=>recFacts_of (Bool.and_eq_true_iff.mp e).2) (by rfl) (by assumption) (by decide +kernel) ⟨rfl,rfl,rfl,rfl,rfl,by decide +kernel⟩ ?hw ?hc
 case hw=>w_witness2
 case hl=>exact Hd.uZ K05.ran1 K05.ran3 K05.ran4
 case hc=>exact K05.walk rfl rfl rfl
