import PyProof.Rows.All
import Wide.All
import OpenK.AllK
import Wide.FinOn
import Lean
import PyProof.EqAt
import PyProof.EqKinds
import PyProof.TupleCall
import PyProof.NeKinds
import KE.LcSums
import KE.KPairComp
import PyProof.EnumMake
import PyProof.EnumFor
import PyProof.ZipIter
import PyProof.Draws
import KE.KSortTup
import PyProof.Rows.SortWalk
import PyProof.Rows.MinMaxN
import PyProof.Rows.SetFrom
import PyProof.WalkInts
import KE.KSortKey
import PyProof.Rows.TupAdd
import PyProof.ReprRoads
import PyProof.Rows.RegStrFacts
import PyProof.ListRange
import PyProof.TupleOfStr
import PySem.Challenge.RW_falsesums_k04_what_is_a_sum
set_option Elab.async false
set_option linter.all false
set_option maxRecDepth 100000
namespace L2
open PySem
theorem Fg:(0:Nat)≤sizeLine:=by decide
theorem AA:(1:Nat)≤sizeLine:=by decide
theorem kQ:(2:Nat)≤sizeLine:=by decide
theorem E6:(3:Nat)≤sizeLine:=by decide
theorem ES:(4:Nat)≤sizeLine:=by decide
theorem Fh:(6:Nat)≤sizeLine:=by decide
def bD (s:Stmt)(j:Nat):Stmt:=match s with
 | .ClassDef _ _ _ body _ _ _ _ _ _ _=>body.getD j (.Pass ⟨0,0,0,0⟩)
 | _=>.Pass ⟨0,0,0,0⟩
def cZ (s:Stmt):Arguments:=match s with
 | .FunctionDef _ a _ _ _ _ _ _ _ _=>a
 | _=>{ posonlyargs:=[],args:=[],vararg:=none,kwonlyargs:=[],kw_defaults:=[],kwarg:=none,defaults:=[] }
def cm (s:Stmt):List Stmt:=match s with
 | .FunctionDef _ _ b _ _ _ _ _ _ _=>b
 | _=>[]
def ar (s:Stmt):Scope:=match s with
 | .FunctionDef _ _ _ _ _ _ sc _ _ _=>sc
 | _=>{ kind:=.function,names:=[],isGenerator:=false,isCoroutine:=false }
end L2
namespace Hd
open PySem PySem.W PyProof.Rows
def xD (as:List Addr)(h:Heap):Frag:=as.filterMap fun a=>(h.get? a).map fun o=>(a,o)
theorem nh (h:Heap):∀ as:List Addr,(xD as h).In h
 | [],a,o,e=>by cases e
 | b :: as,a,o,e=>by
   unfold xD at e
   rw [List.filterMap_cons] at e
   cases q:h.get? b with
   | none =>
     rw [q] at e
     exact nh h as a o e
   | some u =>
     rw [q] at e
     dsimp only [Option.map_some] at e
     rw [List.lookup_cons] at e
     by_cases z:a=b
     ·subst z
      simp only [beq_self_eq_true] at e
      rw [q]; exact e
     ·have:(a == b)=false:=by simpa using z
      simp only [this] at e
      exact nh h as a o e
abbrev Sig:=Str × Str × Arguments × FuncBody × Scope × Addr × List (Str × Addr) × Value × Addr
def Cv (fd:FuncData):Sig:=(fd.name,fd.qualname,fd.params,fd.body,fd.scope,fd.globals,fd.closure,fd.defaults,fd.builtins)
def oX (K:Frag)(v:Option (Option Value)):Option FuncData:=match v with
 | some (some (.ref f))=>(match K.lookup f with
   | some ⟨_,_,.func fd,_⟩=>some fd
   | _=>none)
 | _=>none
def bx (K:Frag)(v:Option (Option Value)):Option Sig:=(oX K v).map Cv
def eA (x qual:Str)(st:Stmt):Option Sig:=some (x,qual,L2.cZ st,.stmts (L2.cm st),L2.ar st,mainGlobals,[],.none,builtinsNs)
def dB (v:Option (Option Value)):Addr:=match v with
 | some (some (.ref a))=>a
 | _=>0
def e8 (v:Option (Option Value)):Bool:=match v with
 | some (some (.ref _))=>true
 | _=>false
theorem cJ {v:Option (Option Value)}(h:e8 v=true):v=some (some (.ref (dB v))):=by
 unfold e8 at h
 split at h
 ·rfl
 ·cases h
def c6 (v:Option (Option Value)):Bool:=match v with
 | some none=>true
 | _=>false
theorem bq {v:Option (Option Value)}(h:c6 v=true):v=some none:=by
 unfold c6 at h
 split at h
 ·rfl
 ·cases h
def dY (K:Frag)(v:Option (Option Value))(qual:Str):Bool:=keepIn K (.ref (dB v))&&(match oX K v with
 | some fd=>codeIn K fd.code qual
 | none=>false)
abbrev gv (K:Frag)(x:Str):Option (Option Value):=nsIn K mainGlobals x
abbrev ga (K:Frag)(x:Str):Addr:=dB (nsIn K mainGlobals x)
abbrev fv (K:Frag)(c x:Str):Option (Option Value):=findIn K (.ref (dB (nsIn K mainGlobals c))) x
def ir (K:Frag)(v:Option (Option Value)):Option Sig:=(oX K v).map fun fd=>Cv { fd with defaults:=.none }
def DN (K:Frag)(v:Option (Option Value)):Value:=match oX K v with
 | some fd=>fd.defaults
 | none=>.none
def ph (K:Frag)(v:Option (Option Value)):Addr:=match DN K v with
 | .ref a=>a
 | _=>0
def vj (K:Frag)(v:Option (Option Value)):Bool:=match DN K v with
 | .ref _=>true
 | _=>false
def u3 (K:Frag)(T:Addr)(p:Value->Bool):Bool:=match K.lookup T with
 | some o=>(match o.data with
   | .seq a _=>(match a.toList with
     | [v]=>p v
     | _=>false)
   | _=>false)
 | none=>false
theorem jn {K:Frag}{T:Addr}{p:Value->Bool}(h:u3 K T p=true):∃ o v n,K.lookup T=some o∧o.data = .seq #[v] n∧p v=true:=by
 unfold u3 at h
 split at h
 ·rename_i o ho
  split at h
  ·rename_i a n hd
   split at h
   ·rename_i v hv
    have:a = #[v]:=by rw [← Array.toArray_toList (xs:=a),hv]
    subst this
    exact ⟨o,v,n,ho,hd,h⟩
   ·cases h
  ·cases h
 ·cases h
def isI (n:Int)(v:Value):Bool:=match v with
 | .int i _=>i == n
 | _=>false
theorem kr {n:Int}{v:Value}(h:isI n v=true):∃ t,v = .int n t:=by
 unfold isI at h
 split at h
 ·rename_i i t
  have:i=n:=by simpa using h
  exact ⟨t,by rw [this]⟩
 ·cases h
def v5 (v:Value):Bool:=match v with
 | .none=>true
 | _=>false
theorem n9 {v:Value}(h:v5 v=true):v = .none:=by
 unfold v5 at h
 split at h
 ·rfl
 ·cases h
def uh (v:Option (Option Value))(n:Int):Bool:=match v with
 | some (some u)=>isI n u
 | _=>false
theorem jg {v:Option (Option Value)}{n:Int}(h:uh v n=true):∃ t,v=some (some (.int n t)):=by
 unfold uh at h
 split at h
 ·obtain ⟨t,rfl⟩:=kr h
  exact ⟨t,rfl⟩
 ·cases h
def sN:List Value->List Int->Bool
 | [],[]=>true
 | v :: vs,n :: ns=>isI n v&&sN vs ns
 | _,_=>false
def vR (K:Frag)(a:Addr)(ns:List Int):Bool:=match K.lookup a with
 | some o=>(match o.cls with
   | .type T=>T == "tuple"
   | _=>false)&&(match o.data with
   | .seq its _=>sN its.toList ns&&decide (its.size≤sizeLine)
   | _=>false)
 | none=>false
def wR (K:Frag):Bool:=match K.lookup sysModules with
 | some o=>(match o.cls with
   | .type T=>T == "dict"
   | _=>false)
 | none=>false
def ja (v:Option (Option Value))(s:String):Bool:=match v with
 | some (some (.builtin t))=>t == s
 | _=>false
theorem cY {v:Option (Option Value)}{s:String}(h:ja v s=true):v=some (some (.builtin s)):=by
 unfold ja at h
 split at h
 ·rename_i t
  have:t=s:=by simpa using h
  rw [this]
 ·cases h
def isT (v:Option Bool)(b:Bool):Bool:=match v with
 | some c=>c == b
 | none=>false
theorem dU {v:Option Bool}{b:Bool}(h:isT v b=true):v=some b:=by
 unfold isT at h
 split at h
 ·rename_i c
  have:c=b:=by simpa using h
  rw [this]
 ·cases h
def yJ:List Obj->BT->Nat->Option BT
 | [],t,_=>some t
 | o :: os,t,n=>match ((t.ins n o).get n).isSome with
   | true=>yJ os (t.ins n o) (n + 1)
   | false=>none
theorem sG (life:Life):∀ (os:List Obj)(t t':BT)(n:Nat),yJ os t n=some t'->(absHeap t' (n + os.length) life).objs=(absHeap t n life).objs++os.toArray
 | [],t,t',n,h=>by
   cases h
   simp
 | o :: os,t,t',n,h=>by
   unfold yJ at h
   cases q:((t.ins n o).get n).isSome with
   | false=>rw [q] at h; cases h
   | true =>
     rw [q] at h
     have e:=sG life os _ _ _ h
     rw [absHeap_ins q] at e
     have:n + 1 + os.length=n + (o :: os).length:=by simp only [List.length_cons]; omega
     rw [this] at e
     rw [e]
     show ((absHeap t n life).objs.push o)++os.toArray=_
     rw [← Array.append_singleton,Array.append_assoc]
     simp
def Eg (s:Shared):Option SharedT:=(yJ s.heap.objs.toList .nil 0).map fun t=>⟨t,s.heap.objs.size,s.heap.life,s.gens,s.drawn,s.toks,s.os⟩
theorem BR {s:Shared}{x:SharedT}(h:Eg s=some x):x.abs=s:=by
 unfold Eg at h
 obtain ⟨t,e,rfl⟩:=Option.map_eq_some_iff.mp h
 have g:=sG s.heap.life _ _ _ _ e
 obtain ⟨⟨objs,life⟩,gens,drawn,toks,os⟩:=s
 have z:absHeap t objs.size life=⟨objs,life⟩:=by
  have a:(absHeap t objs.size life).objs=objs:=by
   have l:0 + objs.toList.length=objs.size:=by simp
   rw [l] at g
   rw [g]
   simp [absHeap,BT.list]
  exact congrArg (Heap.mk · life) a
 show Shared.mk _ _ _ _ _=_
 rw [z]
def jl (tb:String->Option Builtin)(p:Program)(w:World)(n₀:Nat)(ann:Option Value):Nat->SharedT->Thread->Option SharedT
 | 0,_,_=>none
 | n + 1,s,t=>match through t with
   | true=>some s
   | false=>match stepOk n₀ ann t with
     | false=>none
     | true=>match stepT (denote tb) p w s t with
       | some (s',t')=>jl tb p w n₀ ann n s' t'
       | none=>none
section
variable {tb:String->Option Builtin}{p:Program}{w:World}{n₀:Nat}{ann:Option Value}
theorem jA:∀ {n:Nat}{s s':SharedT}{t:Thread},jl tb p w n₀ ann n s t=some s'->topRun tb p w n₀ ann n s.abs t=some s'.abs
 | 0,_,_,_,h=>by cases h
 | n + 1,s,s',t,h=>by
   unfold jl at h
   unfold topRun
   cases he:through t with
   | true=>rw [he] at h; cases h; rfl
   | false =>
     rw [he] at h
     cases hk:stepOk n₀ ann t with
     | false=>rw [hk] at h; cases h
     | true =>
       rw [hk] at h
       cases hs:stepT (denote tb) p w s t with
       | none=>rw [hs] at h; cases h
       | some r=>obtain ⟨s₂,t₂⟩:=r; rw [hs] at h; rw [stepT_spec hs]; exact jA h
end
def j6 (tb:String->Option Builtin)(p:Program)(w:World)(N:Nat)(s₀:Shared):Option SharedT :=
 match s₀.heap.isNs mainGlobals&&s₀.gens.size == 0 with
 | true=>(Eg s₀).bind fun x=>(jl tb p w s₀.heap.objs.size (s₀.heap.nsMap mainGlobals "__annotations__") N x (topStub p)).bind fun s₁=>match staticsOk (importedModules p.main.body) s₀.heap s₁.abs.heap&&namesBound p s₁.abs.heap&&gensDone s₁.abs&&laidKept s₀.heap s₁.abs.heap with
  | true=>some s₁
  | false=>none
 | false=>none
theorem pP {tb:String->Option Builtin}{p:Program}{w:World}{N:Nat}{s:Shared}{y:SharedT}(h:j6 tb p w N s=some y):topFrom tb p w N s=some y.abs:=by
 unfold j6 at h
 unfold topFrom
 cases q:(s.heap.isNs mainGlobals&&s.gens.size == 0) with
 | false=>rw [q] at h; cases h
 | true =>
   rw [q] at h
   obtain ⟨x,ex,h⟩:=Option.bind_eq_some_iff.mp h
   obtain ⟨z,ez,h⟩:=Option.bind_eq_some_iff.mp h
   have e:=jA ez
   rw [BR ex] at e
   dsimp only
   rw [e]
   show (match (staticsOk (importedModules p.main.body) s.heap z.abs.heap&&namesBound p z.abs.heap&&gensDone z.abs&&laidKept s.heap z.abs.heap) with | true=>some z.abs | false=>none)=_
   split at h
   ·cases h
    rename_i q2
    simp only [q2]
   ·cases h
def bK (tb:String->Option Builtin)(p:Program)(w:World)(N:Nat):Option SharedT:=(fencedOpening tb p w N).bind (j6 tb p w N)
theorem n5 {tb:String->Option Builtin}{p:Program}{w:World}{N:Nat}{y:SharedT}(h:bK tb p w N=some y):openEnds tb p w N=some y.abs:=by
 unfold bK at h
 unfold openEnds
 obtain ⟨s,e,h⟩:=Option.bind_eq_some_iff.mp h
 rw [e]
 exact pP h
theorem wM {p q:Program}{loose:List Str}{Xt:Shared->Bool}{α:Type}{Yf:Shared->α}{Ya:World->α}{N:Nat}
 (h1:∀ w,(bK treeTable p w N).map (fun s=>openSeen q loose (importedModules p.main.body) Xt true s.abs)=some (openGood q loose))
 (h2:∀ w,(bK treeTable p w N).map (fun s=>Yf s.abs)=some (Ya w)):LeftO p q loose Xt Yf Ya N:=fun w=>by
 obtain ⟨y,e,z⟩:=Option.map_eq_some_iff.mp (h1 w)
 have z2:=h2 w
 rw [e] at z2
 rw [n5 e]
 show some (_,_)=_
 have z3:Yf y.abs=Ya w:=Option.some.inj z2
 rw [z,z3]
section
variable {p q:Program}{loose mods:List Str}{Xt:Shared->Bool}{α:Type}{Yf:Shared->α}{Ya:World->α}{N:Nat}
abbrev pH (q:Program)(s:Shared):=(seen ((recsOf q).map (·.name)) (ownsOf q) [] { s with gens:=#[] },s.heap.bltView)
abbrev pB (q:Program)(loose mods:List Str)(Xt:Shared->Bool)(s:Shared):Bool :=
 s.heap.keysOk (looseW q loose) ((recsOf q).map (·.name)) ((litsOf q).map (·.1)) ((clssOf q (looseW q loose)).map (·.name))&&s.heap.accountedOkI mods&&s.heap.isNs mainGlobals&&s.heap.isNs builtinsNs&&tablesOk q s.heap&&Xt s&&(if true then s.gens.size == 0 else !leftWithCleanup s.gens)
abbrev pT (q:Program)(loose:List Str)(s:Shared):=(tabsOk q s,pinSeenD q (drecsOf q) s,plainSeenE q (looseW q loose) s,plainSeenD q loose s,wideSeen q s,clsSeenW q loose s)
theorem xZ
 (h1:∀ w,(bK treeTable p w N).map (fun s=>pH q s.abs)=some (expectedOf q,bltViewBooted))
 (h2:∀ w,(bK treeTable p w N).map (fun s=>pB q loose (importedModules p.main.body) Xt s.abs)=some true)
 (h3:∀ w,(bK treeTable p w N).map (fun s=>pT q loose s.abs)=some (true,pinGoodD (drecsOf q),plainGoodE q (looseW q loose),plainGoodD q loose,wideGood q,clsGoodW q loose))
 (h4:∀ w,(bK treeTable p w N).map (fun s=>Yf s.abs)=some (Ya w)):LeftO p q loose Xt Yf Ya N:=by
 refine wM (fun w=>?_) h4
 obtain ⟨y,e,z1⟩:=Option.map_eq_some_iff.mp (h1 w)
 have z2:=h2 w
 have z3:=h3 w
 rw [e] at z2 z3 ⊢
 have z2:pB q loose (importedModules p.main.body) Xt y.abs=true:=Option.some.inj z2
 have z3:pT q loose y.abs=_:=Option.some.inj z3
 show some (openSeen q loose (importedModules p.main.body) Xt true y.abs)=_
 have e1:openSeen q loose (importedModules p.main.body) Xt true y.abs=((pH q y.abs).1,(pH q y.abs).2,pB q loose (importedModules p.main.body) Xt y.abs,pT q loose y.abs):=rfl
 rw [e1,z1,z2,z3]
 rfl
theorem xt
 (h1:∀ w,(bK treeTable p w N).map (fun s=>(pH q s.abs,pB q loose (importedModules p.main.body) Xt s.abs))=some ((expectedOf q,bltViewBooted),true))
 (h3:∀ w,(bK treeTable p w N).map (fun s=>pT q loose s.abs)=some (true,pinGoodD (drecsOf q),plainGoodE q (looseW q loose),plainGoodD q loose,wideGood q,clsGoodW q loose))
 (h4:∀ w,(bK treeTable p w N).map (fun s=>Yf s.abs)=some (Ya w)):LeftO p q loose Xt Yf Ya N:=by
 refine xZ (fun w=>?_) (fun w=>?_) h3 h4
 ·obtain ⟨y,e,z⟩:=Option.map_eq_some_iff.mp (h1 w)
  rw [e]
  exact congrArg some (Prod.mk.inj z).1
 ·obtain ⟨y,e,z⟩:=Option.map_eq_some_iff.mp (h1 w)
  rw [e]
  exact congrArg some (Prod.mk.inj z).2
end
def Fj (K:Frag)(C f:Addr)(bmB:List Value)(newId:String):Bool :=
 match K.lookup C with
 | some ⟨.type "type",_,.cls cd,sl⟩ =>
   match cd.mro,sl.toList with
   | .ref D :: tl,[_,_,_,_,some (.builtin made),_]=>(D == C)&&((made == newId)&&((!cd.hasDel)&&(tailIn K bmB tl&&(nsOkIn K cd.ns&&(nsIn K cd.ns "__init__" == some (some (.ref f)))))))
   | _,_=>false
 | _=>false
def zZ:List Value->List Value
 | .ref _ :: r=>zZ r
 | l=>l
def wX (K:Frag)(C f:Addr)(bmB bmK:List Value)(newId:String):Bool :=
 keepIn K (.ref C)&&((clsIn K C).any (fun cd=>cd.hasDict&&(zZ cd.mro == bmB || zZ cd.mro == bmK))&&((K.lookup C).any (fun o=>o.cls == .type "type")&&((K.lookup f).any (fun o=>o.cls == .type "function")&&Fj K C f bmB newId)))
end Hd
namespace K04
open PySem L2 PySem.W
open Hd (gv ga fv dB e8 cJ c6 bq ja cY isT dU dY bx ir eA vj ph u3 jn v5 n9 isI kr uh jg vR wR)
def bt (i:Nat):Stmt:=PySem.Challenge.pw_falsesums_k04_what_is_a_sum.main.body.getD i (.Pass ⟨0,0,0,0⟩)
def primes:List Int:=[2,3,5,7,11,13,17,19,23,29,31,37,41,43,47,53,59,61,67,71,73,79,83,89,97]
abbrev D9:List Value:=[.type "ValueError",.type "Exception",.type "BaseException",.type "object"]
abbrev Bw:String:="ValueError.__new__"
def EZ (K:Frag):Bool :=
 (c6 (gv K "isinstance") &&
 (c6 (gv K "int") &&
 (c6 (gv K "bool") &&
 (c6 (gv K "ValueError") &&
 (c6 (gv K "abs") &&
 (c6 (gv K "len") &&
 (c6 (gv K "tuple") &&
 (c6 (gv K "all") &&
 (c6 (gv K "zip") &&
 (c6 (gv K "list") &&
 (c6 (gv K "enumerate") &&
 (c6 (gv K "sorted") &&
 (c6 (gv K "max") &&
 (c6 (gv K "min") &&
 (c6 (gv K "set") &&
 (c6 (gv K "range")))))))))))))))))
def EM (K:Frag):Bool :=
 (c6 (gv K "repr") &&
 (e8 (gv K "Sum") &&
 (e8 (gv K "Field") &&
 (e8 (gv K "FalseError") &&
 (e8 (gv K "NoField") &&
 (e8 (gv K "NoNumber") &&
 (e8 (gv K "NoSum") &&
 (e8 (gv K "PRIMES") &&
 (uh (gv K "FRACTIONS") 0 &&
 (uh (gv K "MOST_PLACES") 60 &&
 (dY K (gv K "is_whole") "is_whole" &&
 (dY K (gv K "is_place") "is_place" &&
 (dY K (gv K "is_product") "is_product" &&
 (dY K (gv K "is_term") "is_term" &&
 (dY K (gv K "checked_terms") "checked_terms" &&
 (dY K (gv K "place_of_term") "place_of_term"))))))))))))))))
def EX (K:Frag):Bool :=
 (dY K (gv K "gathered") "gathered" &&
 (dY K (gv K "common_divisor") "common_divisor" &&
 (dY K (gv K "lowest") "lowest" &&
 (dY K (gv K "_law_room") "_law_room" &&
 (dY K (gv K "_law_take") "_law_take" &&
 (dY K (gv K "_law_lowest") "_law_lowest" &&
 (dY K (gv K "_law_whole") "_law_whole" &&
 (dY K (gv K "_law_is_number") "_law_is_number" &&
 (dY K (gv K "_law_make") "_law_make" &&
 (dY K (gv K "_law_plus") "_law_plus" &&
 (dY K (gv K "_law_prime") "_law_prime" &&
 (dY K (gv K "_law_number") "_law_number" &&
 (dY K (gv K "_law_gather") "_law_gather" &&
 (dY K (gv K "_law_terms") "_law_terms" &&
 (dY K (gv K "_law_odd") "_law_odd" &&
 (dY K (gv K "_law_is_term") "_law_is_term"))))))))))))))))
def EY (K:Frag):Bool :=
 (dY K (gv K "_law_number_of") "_law_number_of" &&
 (dY K (gv K "_law_right") "_law_right" &&
 (dY K (gv K "law") "law" &&
 (dY K (fv K "Sum" "field") "Sum.field" &&
 (isFn K (.ref (dB (fv K "Sum" "field"))) &&
 (dY K (fv K "Sum" "terms") "Sum.terms" &&
 (isFn K (.ref (dB (fv K "Sum" "terms"))) &&
 (dY K (fv K "Sum" "degree") "Sum.degree" &&
 (isFn K (.ref (dB (fv K "Sum" "degree"))) &&
 (dY K (fv K "Sum" "__len__") "Sum.__len__" &&
 (isFn K (.ref (dB (fv K "Sum" "__len__"))) &&
 (dY K (fv K "Field" "__eq__") "Field.__eq__" &&
 (isFn K (.ref (dB (fv K "Field" "__eq__"))) &&
 (dY K (fv K "Field" "plus") "Field.plus" &&
 (isFn K (.ref (dB (fv K "Field" "plus"))) &&
 (dY K (fv K "Field" "settled") "Field.settled"))))))))))))))))
def EK (K:Frag):Bool :=
 (isFn K (.ref (dB (fv K "Field" "settled"))) &&
 (dY K (fv K "Field" "is_number") "Field.is_number" &&
 (isFn K (.ref (dB (fv K "Field" "is_number"))) &&
 (dY K (fv K "NoSum" "__init__") "NoSum.__init__" &&
 (isFn K (.ref (dB (fv K "NoSum" "__init__"))) &&
 (dY K (fv K "Sum" "__init__") "Sum.__init__" &&
 (isFn K (.ref (dB (fv K "Sum" "__init__"))) &&
 (vj K (fv K "Sum" "__init__") &&
 (u3 K (ph K (fv K "Sum" "__init__")) (v5) &&
 (dY K (fv K "Field" "__init__") "Field.__init__" &&
 (isFn K (.ref (dB (fv K "Field" "__init__"))) &&
 (vj K (fv K "Field" "__init__") &&
 (u3 K (ph K (fv K "Field" "__init__")) (isI 0) &&
 (plainGet K (ga K "Field") Str.empty &&
 (hasDictIn K (ga K "Field") &&
 (plainOver K (ga K "Field")))))))))))))))))
def EN (K:Frag):Bool :=
 (ja (fv K "Field" "__setattr__") "object.__setattr__" &&
 (c6 (fv K "Field" "its_prime") &&
 (((clsIn K (ga K "Field")).isSome&&typeIn K (.ref (ga K "Field")) == some (.type "type")) &&
 (ja (fv K "Field" "__class__") "object.__class__" &&
 (ja (specialIn K (.builtin "object.__class__") "__get__") "getset_descriptor.__get__" &&
 (isT (takesIn K (.builtin "object.__class__")) true &&
 (isT (mroIn K (ga K "Field") (.type "object")) true &&
 (plainGet K (ga K "Sum") Str.empty &&
 (hasDictIn K (ga K "Sum") &&
 (plainOver K (ga K "Sum") &&
 (ja (fv K "Sum" "__setattr__") "object.__setattr__" &&
 (c6 (fv K "Sum" "its_field") &&
 (c6 (fv K "Sum" "its_terms") &&
 (vR K (ga K "PRIMES") primes &&
 (excIn K (ga K "NoField") D9 Bw &&
 (ja (fv K "Field" "__ne__") "object.__ne__"))))))))))))))))
def E4 (K:Frag):Bool :=
 (wR K &&
 (Hd.wX K (ga K "NoSum") (dB (fv K "NoSum" "__init__")) D9 [.type "KeyError",.type "LookupError",.type "Exception",.type "BaseException",.type "object"] Bw &&
 ((clsIn K (ga K "NoSum")).isSome &&
 (ja (fv K "NoSum" "__getattribute__") "BaseException.__getattribute__" &&
 (c6 (fv K "NoSum" "__getattr__") &&
 (ja (fv K "NoSum" "__class__") "object.__class__" &&
 (isT (mroIn K (ga K "NoSum") (.type "object")) true &&
 (isT (mroIn K (ga K "NoSum") (.type "BaseException")) true &&
 (ja (fv K "NoSum" "__setattr__") "object.__setattr__" &&
 (c6 (fv K "NoSum" "number") &&
 (isT (kitAny K (.ref (ga K "NoSum")) [.ref (ga K "NoField"),.ref (ga K "NoNumber")]) false &&
 (isT (exmOne K (.ref (ga K "NoSum")) (.ref (ga K "NoSum"))) true &&
 (isT (kitOne K (.ref (ga K "NoSum")) (.ref (ga K "FalseError"))) true &&
 (isT (kitOne K (.ref (ga K "NoSum")) (.type "ValueError")) true &&
 (makesIn K (ga K "Sum") &&
 (keepIn K (.ref (ga K "Sum"))))))))))))))))))
def ET (K:Frag):Bool :=
 (makesIn K (ga K "Field") &&
 (keepIn K (.ref (ga K "Field"))))
def qb (K:Frag):Bool:=EZ K&&(EM K&&(EX K&&(EY K&&(EK K&&(EN K&&(E4 K&&(ET K)))))))
def uC (K:Frag):Bool × List (Option Hd.Sig):=(qb K,[bx K (gv K "is_whole"),bx K (gv K "is_place"),bx K (gv K "is_product"),bx K (gv K "is_term"),bx K (gv K "checked_terms"),bx K (gv K "place_of_term"),bx K (gv K "gathered"),bx K (gv K "common_divisor"),bx K (gv K "lowest"),bx K (gv K "_law_room"),bx K (gv K "_law_take"),bx K (gv K "_law_lowest"),bx K (gv K "_law_whole"),bx K (gv K "_law_is_number"),bx K (gv K "_law_make"),bx K (gv K "_law_plus"),bx K (gv K "_law_prime"),bx K (gv K "_law_number"),bx K (gv K "_law_gather"),bx K (gv K "_law_terms"),bx K (gv K "_law_odd"),bx K (gv K "_law_is_term"),bx K (gv K "_law_number_of"),bx K (gv K "_law_right"),bx K (gv K "law"),bx K (fv K "Sum" "field"),bx K (fv K "Sum" "terms"),bx K (fv K "Sum" "degree"),bx K (fv K "Sum" "__len__"),bx K (fv K "Field" "__eq__"),bx K (fv K "Field" "plus"),bx K (fv K "Field" "settled"),bx K (fv K "Field" "is_number"),bx K (fv K "NoSum" "__init__"),ir K (fv K "Sum" "__init__"),ir K (fv K "Field" "__init__")])
def dueK:Bool × List (Option Hd.Sig):=(true,[eA "is_whole" "is_whole" ((bt 9)),eA "is_place" "is_place" ((bt 10)),eA "is_product" "is_product" ((bt 11)),eA "is_term" "is_term" ((bt 20)),eA "checked_terms" "checked_terms" ((bt 21)),eA "place_of_term" "place_of_term" ((bt 22)),eA "gathered" "gathered" ((bt 23)),eA "common_divisor" "common_divisor" ((bt 30)),eA "lowest" "lowest" ((bt 31)),eA "_law_room" "_law_room" ((bt 35)),eA "_law_take" "_law_take" ((bt 36)),eA "_law_lowest" "_law_lowest" ((bt 37)),eA "_law_whole" "_law_whole" ((bt 38)),eA "_law_is_number" "_law_is_number" ((bt 39)),eA "_law_make" "_law_make" ((bt 40)),eA "_law_plus" "_law_plus" ((bt 41)),eA "_law_prime" "_law_prime" ((bt 42)),eA "_law_number" "_law_number" ((bt 43)),eA "_law_gather" "_law_gather" ((bt 44)),eA "_law_terms" "_law_terms" ((bt 45)),eA "_law_odd" "_law_odd" ((bt 46)),eA "_law_is_term" "_law_is_term" ((bt 47)),eA "_law_number_of" "_law_number_of" ((bt 48)),eA "_law_right" "_law_right" ((bt 49)),eA "law" "law" ((bt 50)),eA "field" "Sum.field" (bD (bt 25) 5),eA "terms" "Sum.terms" (bD (bt 25) 6),eA "degree" "Sum.degree" (bD (bt 25) 7),eA "__len__" "Sum.__len__" (bD (bt 25) 2),eA "__eq__" "Field.__eq__" (bD (bt 33) 1),eA "plus" "Field.plus" (bD (bt 33) 6),eA "settled" "Field.settled" (bD (bt 33) 10),eA "is_number" "Field.is_number" (bD (bt 33) 11),eA "__init__" "NoSum.__init__" (bD (bt 6) 0),eA "__init__" "Sum.__init__" (bD (bt 25) 0),eA "__init__" "Field.__init__" (bD (bt 33) 0)])
def places:List Addr:=[1,3,30,31,43,44,56,83,84,86,87,95,96,102,103,107,108,140,141,147,148,154,155,159,160,173,179,180,193,194,214,215,221,222,228,229,287,288,300,306,307,313,314,329,335,336,342,343,378,379,406,407,413,414,416,417,427,428,434,435,441,442,448,449,455,456,460,461,467,468,474,475,481,482,486,487,491,492,498,499,503,504,510,511,515,516,520,521]
def gG:Program:={ PySem.Challenge.pw_falsesums_k04_what_is_a_sum with main:={ PySem.Challenge.pw_falsesums_k04_what_is_a_sum.main with body:=[bt 0,bt 2,bt 3,bt 4,bt 5,bt 6,bt 8,bt 9,bt 10,bt 11,bt 13,bt 14,bt 15,bt 16,bt 17,bt 18,bt 20,bt 21,bt 22,bt 23,bt 24,bt 25,bt 26,bt 28,bt 29,bt 30,bt 31,bt 32,bt 33,bt 35,bt 36,bt 37,bt 38,bt 39,bt 40,bt 41,bt 42,bt 43,bt 44,bt 45,bt 46,bt 47,bt 48,bt 49,bt 50] } }
def lv:List (PySem.Str × WData):=[("STEP",.int 10000000000000000000000000000000000000000000000000000000000000000)]
end K04
section
open PySem PySem.W PyProof.Rows
set_option maxRecDepth 100000 in
set_option maxHeartbeats 0 in
theorem K04.ran1:∀ w,(Hd.bK treeTable PySem.Challenge.rw_falsesums_k04_what_is_a_sum.row.prog w 7064).map (fun s=>(Hd.pH K04.gG s.abs,Hd.pB K04.gG ["STEP","Field"] (importedModules PySem.Challenge.rw_falsesums_k04_what_is_a_sum.row.prog.main.body) (fun s=>xlAt K04.gG K04.lv s&&recOk (PySem.Challenge.rw_falsesums_k04_what_is_a_sum.row.toRowW).records s) s.abs))=some ((PyProof.Rows.expectedOf K04.gG,bltViewBooted),true):=by
 intro w; kernel_rfl
set_option maxRecDepth 100000 in
set_option maxHeartbeats 0 in
theorem K04.ran3:∀ w,(Hd.bK treeTable PySem.Challenge.rw_falsesums_k04_what_is_a_sum.row.prog w 7064).map (fun s=>Hd.pT K04.gG ["STEP","Field"] s.abs)=some (true,pinGoodD (drecsOf K04.gG),plainGoodE K04.gG (looseW K04.gG ["STEP","Field"]),plainGoodD K04.gG ["STEP","Field"],wideGood K04.gG,clsGoodW K04.gG ["STEP","Field"]):=by
 intro w; kernel_rfl
set_option maxRecDepth 100000 in
set_option maxHeartbeats 0 in
theorem K04.ran4:∀ w,(Hd.bK treeTable PySem.Challenge.rw_falsesums_k04_what_is_a_sum.row.prog w 7064).map (fun s=>K04.uC (Hd.xD K04.places s.abs.heap))=some K04.dueK:=by
 intro w; kernel_rfl
end
namespace L2
open PySem PySem.Spec PyProof.Rows
abbrev Key:=Sum Int Str
def lW:Key->Value->Bool
 | .inl k,v=>Value.isInt k v
 | .inr x,v=>Value.isStrOf x v
def Ej (w:World):Key->Int
 | .inl k=>hashInt k
 | .inr x=>hashStr w x
theorem bY:∀ {k:Key}{v:Value},lW k v=true->(∃ i t,k=Sum.inl i∧v=Value.int i t)∨(∃ x t,k=Sum.inr x∧v=Value.str x t)
 | .inl i,v,h=>by
   obtain ⟨t,e⟩:=Value.isInt_shape (k:=i) (v:=v) h
   exact .inl ⟨i,t,rfl,e⟩
 | .inr x,v,h=>by
   obtain ⟨t,e⟩:=Value.isStrOf_shape (x:=x) (v:=v) h
   exact .inr ⟨x,t,rfl,e⟩
theorem vK (i:Int)(t:Tok):lW (.inl i) (.int i t)=true:=by simp [lW,Value.isInt]
theorem uq (x:Str)(t:Tok):lW (.inr x) (.str x t)=true:=by simp [lW,Value.isStrOf]
theorem Cg (a b:Int):decide ((Sum.inl a:Key)=Sum.inl b)=(a == b):=by
 by_cases e:a=b
 ·subst e; simp
 ·have h:¬ (Sum.inl a:Key)=Sum.inl b:=fun q=>e (Sum.inl.inj q)
  rw [decide_eq_false h]
  exact (beq_eq_false_iff_ne.mpr e).symm
theorem Bf (a b:Str):decide ((Sum.inr a:Key)=Sum.inr b)=decide (a=b):=by
 by_cases e:a=b
 ·subst e; simp
 ·have h:¬ (Sum.inr a:Key)=Sum.inr b:=fun q=>e (Sum.inr.inj q)
  rw [decide_eq_false h,decide_eq_false e]
theorem Cn (a:Int)(b:Str):decide ((Sum.inl a:Key)=Sum.inr b)=false:=decide_eq_false (fun q=>nomatch q)
theorem B6 (a:Str)(b:Int):decide ((Sum.inr a:Key)=Sum.inl b)=false:=decide_eq_false (fun q=>nomatch q)
def bX (prog:Program)(w:World):PySem.KeyKind prog w Key where
 is:=lW
 hash:=Ej w
 inj:=fun v a b ha hb=>by
  rcases bY ha with ⟨i,t,rfl,rfl⟩ | ⟨x,t,rfl,rfl⟩
  ·rcases bY hb with ⟨j,u,rfl,e⟩ | ⟨y,u,rfl,e⟩
   ·injection e with e1 _; rw [e1]
   ·exact nomatch e
  ·rcases bY hb with ⟨j,u,rfl,e⟩ | ⟨y,u,rfl,e⟩
   ·exact nomatch e
   ·injection e with e1 _; rw [e1]
 byValue:=fun k v h=>by
  rcases bY h with ⟨i,t,rfl,rfl⟩ | ⟨x,t,rfl,rfl⟩ <;> rfl
 pyHash:=fun hv h=>by
  rcases bY hv with ⟨i,t,rfl,rfl⟩ | ⟨x,t,rfl,rfl⟩
  ·exact wpAny_pyHash_int h
  ·exact wpAny_pyHash_str h
 eqBool:=fun hu hv h=>by
  rcases bY hu with ⟨i,t,rfl,rfl⟩ | ⟨x,t,rfl,rfl⟩
  ·rcases bY hv with ⟨j,u,rfl,rfl⟩ | ⟨y,u,rfl,rfl⟩
   ·rw [Cg] at h; exact wpAny_eqBool_int h
   ·rw [Cn] at h; exact SeqAt.EqAt.int_str i t y u _ _ _ _ h
  ·rcases bY hv with ⟨j,u,rfl,rfl⟩ | ⟨y,u,rfl,rfl⟩
   ·rw [B6] at h; exact SeqAt.EqAt.str_int x t j u _ _ _ _ h
   ·rw [Bf] at h; exact wpAny_eqBool_str h
 «strs»:=fun k x t v h=>by
  rcases bY h with ⟨i,u,rfl,e⟩ | ⟨y,u,rfl,e⟩
  ·exact nomatch e
  ·injection e with e1 _
   subst e1
   cases v <;> rfl
theorem oK (prog:Program)(w:World)(i:Int)(t:Tok):(bX prog w).is (.inl i) (.int i t)=true:=vK i t
theorem oP (prog:Program)(w:World)(x:Str)(t:Tok):(bX prog w).is (.inr x) (.str x t)=true:=uq x t
inductive V where
 | non | bl (b:Bool) | int (i:Int) | str (x:Str) | byt (b:Array UInt8) | flt (b:UInt64) | ref (a:Addr) | ty (n:String)
 deriving DecidableEq
def aE:V->Value->Prop
 | .non,u=>u=Value.none
 | .bl b,u=>u=Value.bool b
 | .int i,u=>∃ t,u=Value.int i t
 | .str x,u=>∃ t,u=Value.str x t
 | .byt b,u=>∃ t,u=Value.bytes b t
 | .flt b,u=>∃ t,u=Value.float b t
 | .ref a,u=>u=Value.ref a
 | .ty n,u=>u=Value.type n
abbrev aG:List V->List Value->Prop:=Paired aE
theorem aG.length {xs:List V}{us:List Value}(r:aG xs us):xs.length=us.length:=Paired.length r
theorem aG.get:∀ {xs:List V}{us:List Value}{i:Nat}{x:V},aG xs us->xs[i]?=some x->∃ u,us[i]?=some u∧aE x u
 | _,_,_,_,.nil,e=>by simp at e
 | _,_,0,_,.cons r _,e=>by simp at e; subst e; exact ⟨_,rfl,r⟩
 | _,_,i + 1,x,.cons _ t,e=>by
   obtain ⟨u,h1,h2⟩:=aG.get (i:=i) (x:=x) t (by simpa using e)
   exact ⟨u,by simpa using h1,h2⟩
theorem aG.set {x:V}{u:Value}(r:aE x u):∀ {xs:List V}{us:List Value}(i:Nat),aG xs us->aG (xs.set i x) (us.set i u)
 | _,_,_,.nil=>.nil
 | _,_,0,.cons _ t=>.cons r t
 | _,_,i + 1,.cons q t=>.cons q (aG.set r i t)
theorem aG.append:∀ {xs ys:List V}{us ws:List Value},aG xs us->aG ys ws->aG (xs++ys) (us++ws)
 | _,_,_,_,.nil,s=>s
 | _,_,_,_,.cons r t,s=>.cons r (aG.append t s)
theorem aG.take:∀ {xs:List V}{us:List Value}(n:Nat),aG xs us->aG (xs.take n) (us.take n)
 | _,_,0,_=>.nil
 | _,_,_ + 1,.nil=>.nil
 | _,_,n + 1,.cons r t=>.cons r (aG.take n t)
theorem aG.drop:∀ {xs:List V}{us:List Value}(n:Nat),aG xs us->aG (xs.drop n) (us.drop n)
 | _,_,0,r=>r
 | _,_,_ + 1,.nil=>.nil
 | _,_,n + 1,.cons _ t=>aG.drop n t
def dt:Option V->Option Value->Prop
 | some v,some u=>aE v u
 | none,none=>True
 | _,_=>False
def KV {κ:Type}:List (κ × V)->List (κ × Value)->Prop:=Paired fun (p:κ × V)(q:κ × Value)=>p.1=q.1∧aE p.2 q.2
def kV:Key->V
 | .inl i=>.int i
 | .inr x=>.str x
inductive HO where
 /-- a list -/
 | lst (xs:List V)
 /-- a tuple (never changes) -/
 | tup (xs:List V)
 /-- a dict whose keys are ints and texts; one whose keys are tuples of ints and texts (the empty one is both) -/
 | dK (kvs:List (Key × V)) | dT (kvs:List (List Key × V))
 /-- a set of ints: its members,its size -/
 | set (S:Int->Bool)(n:Nat)
 /-- an instance of the class at C,its dict at dx,its attributes -/
 | ins (C dx:Addr)(fs:List (Str × V))
 /-- the dict of the instance at x -/
 | own (x:Addr)
 /-- the dict of an exception -/
 | xd (fs:List (Str × V))
 /-- a bound method,f of x -/
 | met (f x:Addr)
 /-- a range object lo,lo + 1,.. below hi -/
 | rng (lo hi:Int)
 /-- a thing that is known to the object (the script; a dict while a loop AM it): read,never written while it is so -/
 | frz (o:Obj)(u:HO)
 /-- a code object's table -/
 | tbl (ps:Array Value)
 /-- any other thing,by what is true of its one object (a def of one's own: SetO a S n:=HO.ext fun h=>..) -/
 | ext (φ:Heap->Prop)
abbrev Hp:=Addr->Option HO
def upd (H:Hp)(a:Addr)(o:HO):Hp:=fun b=>if b=a then some o else H b
theorem ag {H:Hp}{a:Addr}{o:HO}:upd H a o a=some o:=by unfold upd; rw [if_pos rfl]
theorem aq {H:Hp}{a b:Addr}{o:HO}(h:b≠a):upd H a o b=H b:=by unfold upd; rw [if_neg h]
theorem zr {H:Hp}{a:Addr}{o u:HO}:upd (upd H a o) a u=upd H a u:=by
 funext b; unfold upd; split <;> rfl
theorem oV {H:Hp}{a b:Addr}{o u:HO}(h:H a=some o)(h':H b=some u)(d:o≠u):a≠b:=by
 intro e; subst e; rw [h] at h'; exact d (Option.some.inj h')
theorem au {H:Hp}{a b:Addr}{o:HO}(h:H a=some o)(h':H b=none):a≠b:=by
 intro e; subst e; rw [h] at h'; cases h'
section
variable (P:Program)(w:World)
def bc (H:Hp)(h:Heap)(a:Addr):HO->Prop
 | .lst xs=>xs.length≤sizeLine∧∃ (its:List Value)(n:Nat),aG xs its∧h.get? a=some { cls:=.type "list",data:=.seq its.toArray n }
 | .tup xs=>xs.length≤sizeLine∧∃ its:List Value,aG xs its∧IsTup h a its.toArray
 | .dK kvs=>kvs.length≤sizeLine∧(a == sysModules)=false∧∃ vs,KV kvs vs∧h.DictOf (bX P w) a vs
 | .dT kvs=>kvs.length≤sizeLine∧(a == sysModules)=false∧∃ xs:List (List Key × Addr × Value),
  Paired (fun (p:List Key × V)(q:List Key × Addr × Value)=>p.1=q.1∧H q.2.1=some (.tup (p.1.map kV))∧aE p.2 q.2.2) kvs xs ∧
  ∃ o es ep,h.get? a=some o∧o.ExactDict∧o.data = .dict es ep∧es.toList=xs.map (entryOfKey (tupleKind (bX P w)))∧(xs.map (·.1)).Nodup
 | .set S n=>h.SetOf (intKind P w) a S n
 | .ins C dx fs=>H dx=some (.own a)∧fs.length≤1000∧dx≠a∧h.get? a=some (PySem.W.instObj C dx) ∧
  ∃ mA,h.Ns1 dx mA∧(∀ f,dt (fs.lookup f) (mA f))∧PySem.Within mA (fs.map (·.1))
 | .own _=>∃ o,h.get? a=some o
 | .xd fs=>∃ mA,h.Ns1 a mA∧∀ f,dt (fs.lookup f) (mA f)
 | .rng lo hi=>∃ t u v,h.get? a=some { cls:=.type "range",data:=.fields #[.int lo t,.int hi u,.int 1 v] }
 | .frz o u=>h.get? a=some o∧bc H h a u
 | .tbl ps=>h.get? a=some { cls:=.none,data:=.fields ps }
 | .met f x=>h.get? a=some (PySem.W.methodObj (.ref f) (.ref x))
 | .ext φ=>φ h∧(∃ o,h.get? a=some o)∧∀ h1 h2:Heap,φ h1->(∀ o,h1.get? a=some o->h2.get? a=some o)->φ h2
def eK (H:Hp)(h:Heap):Prop:=∀ a o,H a=some o->bc P w H h a o
end
section
variable {P:Program}{w:World}{H H':Hp}{h h':Heap}{a:Addr}{o:HO}
theorem bc.lt (x:bc P w H h a o):a < h.objs.size:=by
 cases o with
 | lst xs=>obtain ⟨_,_,_,_,e⟩:=x; exact Heap.lt_size e
 | tup xs=>obtain ⟨_,_,_,p⟩:=x; exact p.lt
 | dK kvs=>obtain ⟨_,_,_,_,o,_,_,e,_⟩:=x; exact Heap.lt_size e
 | dT kvs=>obtain ⟨_,_,_,_,o,_,_,e,_⟩:=x; exact Heap.lt_size e
 | set S n=>obtain ⟨o,_,_,_,e,_⟩:=x; exact Heap.lt_size e
 | ins C dx fs=>obtain ⟨_,_,_,e,_⟩:=x; exact Heap.lt_size e
 | own y=>obtain ⟨_,e⟩:=x; exact Heap.lt_size e
 | xd fs=>obtain ⟨_,⟨_,_,_,e,_⟩,_⟩:=x; exact Heap.lt_size e
 | rng lo hi=>obtain ⟨_,_,_,e⟩:=x; exact Heap.lt_size e
 | frz ob u=>obtain ⟨e,_⟩:=x; exact Heap.lt_size e
 | tbl ps=>exact Heap.lt_size (show h.get? a=some _ from x)
 | met f y=>exact Heap.lt_size (show h.get? a=some _ from x)
 | ext φ=>obtain ⟨_,⟨_,e⟩,_⟩:=x; exact Heap.lt_size e
theorem Paired.mapP {α β:Type}{F G:α->β->Prop}:∀ {l₁:List α}{l₂:List β},Paired F l₁ l₂->(∀ a b,F a b->G a b)->Paired G l₁ l₂
 | _,_,.nil,_=>.nil
 | _,_,.cons r t,f=>.cons (f _ _ r) (Paired.mapP t f)
theorem bc.stay (x:bc P w H h a o)(k:∀ b u,(b=a∨H b=some (.own a))->h.get? b=some u->h'.get? b=some u)
 (ho:∀ b,H b=some (.own a)->H' b=some (.own a))(ht:∀ b xs,H b=some (.tup xs)->H' b=some (.tup xs)):bc P w H' h' a o:=by
 induction o with
 | lst xs=>obtain ⟨z,its,n,r,e⟩:=x; exact ⟨z,its,n,r,k _ _ (.inl rfl) e⟩
 | tup xs=>obtain ⟨z,its,r,ob,e,c⟩:=x; exact ⟨z,its,r,ob,k _ _ (.inl rfl) e,c⟩
 | dK kvs=>obtain ⟨z,y,vs,r,ob,es,ep,e,c⟩:=x; exact ⟨z,y,vs,r,ob,es,ep,k _ _ (.inl rfl) e,c⟩
 | dT kvs =>
   obtain ⟨z,y,xs,r,ob,es,ep,e,c⟩:=x
   exact ⟨z,y,xs,Paired.mapP r fun p q z=>⟨z.1,ht _ _ z.2.1,z.2.2⟩,ob,es,ep,k _ _ (.inl rfl) e,c⟩
 | set S n=>obtain ⟨ob,es,ep,t,e,c⟩:=x; exact ⟨ob,es,ep,t,k _ _ (.inl rfl) e,c⟩
 | ins C dx fs =>
   obtain ⟨d,z,ne,e,mA,⟨od,es,ep,e2,c⟩,r⟩:=x
   exact ⟨ho _ d,z,ne,k _ _ (.inl rfl) e,mA,⟨od,es,ep,k _ _ (.inr d) e2,c⟩,r⟩
 | own y=>obtain ⟨ob,e⟩:=x; exact ⟨ob,k _ _ (.inl rfl) e⟩
 | xd fs=>obtain ⟨mA,⟨od,es,ep,e,c⟩,r⟩:=x; exact ⟨mA,⟨od,es,ep,k _ _ (.inl rfl) e,c⟩,r⟩
 | rng lo hi=>obtain ⟨t,u,v,e⟩:=x; exact ⟨t,u,v,k _ _ (.inl rfl) e⟩
 | frz ob u ih=>obtain ⟨e,q⟩:=x; exact ⟨k _ _ (.inl rfl) e,ih q⟩
 | tbl ps =>
   have e:h.get? a=some { cls:=.none,data:=.fields ps }:=x
   show h'.get? a=some { cls:=.none,data:=.fields ps }
   exact k a _ (.inl rfl) e
 | met f y =>
   have e:h.get? a=some (PySem.W.methodObj (.ref f) (.ref y)):=x
   show h'.get? a=some (PySem.W.methodObj (.ref f) (.ref y))
   exact k a _ (.inl rfl) e
 | ext φ=>obtain ⟨p,⟨o,e⟩,st⟩:=x; exact ⟨st _ _ p fun o q=>k _ _ (.inl rfl) q,⟨o,k _ _ (.inl rfl) e⟩,st⟩
theorem eK.lt (x:eK P w H h)(e:H a=some o):a < h.objs.size:=(x a o e).lt
theorem eK.fresh (x:eK P w H h)(e:h.objs.size≤a):H a=none:=by
 cases q:H a with
 | none=>rfl
 | some u=>exact absurd (Nat.lt_of_lt_of_le (x.lt q) e) (Nat.lt_irrefl _)
theorem eK.kept (x:eK P w H h)(k:∀ b u,h.get? b=some u->h'.get? b=some u):eK P w H h':=fun a o e =>
 (x a o e).stay (fun b u _ q=>k b u q) (fun _ q=>q) fun _ _ q=>q
theorem eK.laid (x:eK P w H h)(k:∀ b u,h.get? b=some u->h'.get? b=some u)(hp:h.objs.size≤a)(new:bc P w (upd H a o) h' a o):eK P w (upd H a o) h':=fun b u e=>by
 have hn:=x.fresh hp
 by_cases hb:b=a
 ·subst hb; rw [ag] at e; cases e; exact new
 ·rw [aq hb] at e
  exact (x b u e).stay (fun c v _ q=>k c v q) (fun c q=>by rw [aq (au q hn)]; exact q) fun c xs q=>by rw [aq (au q hn)]; exact q
end
def Rd (H:Hp)(a:Addr)(u:HO):Prop:=H a=some u∨∃ o,H a=some (.frz o u)
theorem Rd.of {H:Hp}{a:Addr}{u:HO}(h:H a=some u):Rd H a u:=.inl h
theorem Rd.ok {P:Program}{w:World}{H:Hp}{h:Heap}{a:Addr}{u:HO}(r:Rd H a u)(x:eK P w H h):bc P w H h a u:=by
 rcases r with r | ⟨o,r⟩
 ·exact x a u r
 ·obtain ⟨_,q⟩:=x a _ r
  exact q
def C1:Option HO->Prop
 | some (.lst _)=>True
 | some (.dK _)=>True
 | some (.dT _)=>True
 | some (.set _ _)=>True
 | some (.ins _ _ _)=>True
 | some (.ext _)=>True
 | _=>False
section
variable {P:Program}{w:World}{H:Hp}{h h':Heap}{x e:Addr}{o':HO}
theorem eK.write (ok:eK P w H h)(mu:C1 (H x))(he:e=x∨H e=some (.own x))(k:∀ b u,b≠e->h.get? b=some u->h'.get? b=some u)(heo:∃ u,h'.get? e=some u)
 (new:bc P w (upd H x o') h' x o'):eK P w (upd H x o') h':=fun b u q=>by
 have nown:∀ c y,H c=some (.own y)->c≠x:=fun c y r z=>by subst z; rw [r] at mu; exact mu
 have ntup:∀ c xs,H c=some (.tup xs)->c≠x:=fun c xs r z=>by subst z; rw [r] at mu; exact mu
 by_cases hb:b=x
 ·subst hb; rw [ag] at q; cases q; exact new
 ·rw [aq hb] at q
  by_cases hbe:b=e
  ·have q':H b=some (.own x):=by
    rcases he with z | z
    ·exact absurd (hbe.trans z) hb
    ·rw [hbe]; exact z
   rw [q] at q'; cases q'
   obtain ⟨v,hv⟩:=heo
   exact ⟨v,by rw [hbe]; exact hv⟩
  ·refine (ok b u q).stay (fun c v hc r=>k c v ?_ r) (fun c r=>by rw [aq (nown c b r)]; exact r) fun c xs r=>by rw [aq (ntup c xs r)]; exact r
   rcases hc with rfl | hc
   ·exact hbe
   ·rintro rfl
    rcases he with z | z
    ·exact nown c b hc z
    ·rw [hc] at z; cases z; exact hb rfl
end
structure Un (fs ex:List Addr)(H H':Hp)(h h':Heap):Prop where
 keep:∀ b o,h.get? b=some o->H b=none->b ∉ fs->b ∉ ex->h'.get? b=some o
 slot:∀ b o,h.get? b=some o->H b=none->b∈fs->b ∉ ex->∃ sl,h'.get? b=some { o with slots:=sl }
 free:∀ b o,h.get? b=some o->H b=none->b ∉ ex->H' b=none
 there:∀ b o,h.get? b=some o->b ∉ ex->∃ o',h'.get? b=some o'
 tups:∀ b xs,H b=some (.tup xs)->H' b=some (.tup xs)
 frzs:∀ b o u,H b=some (.frz o u)->H' b=some (.frz o u)
 tbls:∀ b ps,H b=some (.tbl ps)->∃ more,H' b=some (.tbl (ps++more))
section
variable {fs fs' ex ex':List Addr}{H H1 H2:Hp}{h h1 h2 h':Heap}{a x e:Addr}{o:HO}
theorem Un.any (u:Un fs ex H H1 h h1){b:Addr}{ob:Obj}(q:h.get? b=some ob)(n:H b=none)(hx:b ∉ ex):∃ sl,h1.get? b=some { ob with slots:=sl }:=by
 by_cases hb:b∈fs
 ·exact u.slot b ob q n hb hx
 ·exact ⟨ob.slots,u.keep b ob q n hb hx⟩
theorem Un.kept (k:∀ b u,h.get? b=some u->h'.get? b=some u):Un fs ex H H h h' :=
 ⟨fun b ob q _ _ _=>k b ob q,fun b ob q _ _ _=>⟨ob.slots,k b ob q⟩,fun _ _ _ n _=>n,fun b ob q _=>⟨ob,k b ob q⟩,fun _ _ q=>q,fun _ _ _ q=>q,fun _ ps q=>⟨#[],by rw [q]; simp⟩⟩
theorem Un.refl:Un fs ex H H h h:=Un.kept fun _ _ q=>q
theorem Un.laid (k:∀ b u,h.get? b=some u->h'.get? b=some u)(hp:h.objs.size≤a)(hn:H a=none):Un fs ex H (upd H a o) h h' where
 keep:=fun b u q _ _ _=>k b u q
 slot:=fun b u q _ _ _=>⟨u.slots,k b u q⟩
 free:=fun b u q n _=>by rw [aq (Nat.ne_of_lt (Nat.lt_of_lt_of_le (Heap.lt_size q) hp))]; exact n
 there:=fun b u q _=>⟨u,k b u q⟩
 tups:=fun b xs q=>by rw [aq (au q hn)]; exact q
 frzs:=fun b u xs q=>by rw [aq (au q hn)]; exact q
 tbls:=fun b ps q=>⟨#[],by rw [aq (au q hn),q]; simp⟩
theorem Un.write (mu:C1 (H x))(he:e=x∨H e=some (.own x))(k:∀ b u,b≠e->h.get? b=some u->h'.get? b=some u)(heo:∃ u,h'.get? e=some u):Un fs ex H (upd H x o) h h':=by
 have hx:∀ b,H b=none->b≠x:=fun b n z=>by subst z; rw [n] at mu; exact mu
 have hb:∀ b,H b=none->b≠e:=fun b n z=>by
  subst z
  rcases he with r | r
  ·exact hx b n r
  ·rw [n] at r; cases r
 have hm:∀ b u,H b=some u->¬ C1 (some u)->b≠x:=fun b u q nm z=>by subst z; rw [q] at mu; exact nm mu
 refine ⟨fun b u q n _ _=>k b u (hb b n) q,fun b u q n _ _=>⟨u.slots,k b u (hb b n) q⟩,fun b u q n _=>by rw [aq (hx b n)]; exact n,fun b u q _=>?_,
  fun b xs q=>by rw [aq (hm b _ q fun z=>z)]; exact q,fun b u xs q=>by rw [aq (hm b _ q fun z=>z)]; exact q,fun b ps q=>⟨#[],by rw [aq (hm b _ q fun z=>z),q]; simp⟩⟩
 by_cases hbe:b=e
 ·subst hbe; exact heo
 ·exact ⟨u,k b u hbe q⟩
end
def DO (h:Heap)(H:Hp):List Addr:=(List.range h.objs.size).filter fun a=>(H a).isSome
def kZ (h:Heap)(H:Hp):Heap:=PySem.W.hideAll h (DO h H)
theorem vA (h:Heap)(H:Hp):(kZ h H).objs.size=h.objs.size:=PySem.W.hideAll_size _ _
theorem wO {h:Heap}{H:Hp}{b:Addr}{o:Obj}(e:h.get? b=some o)(n:H b=none):(kZ h H).get? b=some o :=
 PySem.W.hideAll_get _ e fun hm=>by
  have q:(H b).isSome=true:=(List.mem_filter.mp hm).2
  rw [n] at q; simp at q
theorem zy {h:Heap}{H:Hp}{b:Addr}{o:Obj}(e:(kZ h H).get? b=some o):h.get? b=some o∧H b=none:=by
 have e':h.get? b=some o:=PySem.W.of_hideAll (DO h H) e
 refine ⟨e',?_⟩
 cases q:H b with
 | none=>rfl
 | some x =>
   have hm:b∈DO h H:=List.mem_filter.mpr ⟨List.mem_range.mpr (Heap.lt_size e'),by simp [q]⟩
   have z:(kZ h H).get? b=none:=PySem.W.hideAll_none (DO h H) hm
   rw [z] at e; cases e
structure Mod (K:PySem.W.Frag)(mg:Str->Option Value)(base:Heap):Prop where
 kin:K.In base
 glob:base.Ns mainGlobals mg
 blt:∃ mb,base.Ns builtinsNs mb∧∀ x:Str,x ≠ "__name__"->mb x=bootBuiltins x
 nolimit:base.NoLimit
structure Cx where
 prog:Program
 w:World
 K:PySem.W.Frag
 mg:Str->Option Value
 base:Heap
 A:Around
 N:List Str
 s₀:Shared
 H₀:Hp
 env:Env
 outer:List Env
 stack:List Env
 ex:List Addr
 fn:Str->Bool
 calm:Bool
 pn:List (Addr × Obj)
 xe:Value->Shared->Prop
def di (l:List Env):List Addr:=l.filterMap (·.frame)
abbrev Cx.fs (X:Cx):List Addr:=di X.outer
def DQ (sc:Scope)(x:Str):Prop:=sc.names.lookup x=some .local∨sc.names.lookup x=some .cell∨sc.names.lookup x=some .free
def CB (sc:Scope)(x:Str):Prop:=sc.names.lookup x=some .local∨sc.names.lookup x=some .cell
def D6 (env:Env)(h:Heap)(m:Str->Option Value)(x:Str)(u:Value):Prop :=
 (env.kindOf x=some .local∧m x=some u)∨((env.kindOf x=some .cell∨env.kindOf x=some .free)∧∃ c,env.cells.lookup x=some c∧h.IsCell c (some u))
structure Cx.Ok (X:Cx):Prop where
 mod:Mod X.K X.mg X.base
 kind:X.env.scope.kind = .function
 glob:X.env.globals=mainGlobals
 blt:X.env.builtins=builtinsNs
 above:X.s₀.heap.objs.size≤X.env.locals
 inj:∀ x y c,X.env.cells.lookup x=some c->X.env.cells.lookup y=some c->x=y
 has:∀ x,(X.env.kindOf x=some .cell∨X.env.kindOf x=some .free)->∃ c,X.env.cells.lookup x=some c
 cab:∀ x c,X.fn x=true->X.env.cells.lookup x=some c->X.s₀.heap.objs.size≤c
 hd:X.calm=true->X.A.handled=none
 frames:X.A.frames=some X.stack
 stk:X.stack=X.outer∨(X.stack=X.env :: X.outer∧X.env.frame=some X.env.locals)
 exf:∀ b∈X.ex,b≠X.env.locals∧∀ x c,X.env.cells.lookup x=some c->c≠b
 bs:∀ b o,X.base.get? b=some o->X.s₀.heap.get? b=some o∧X.H₀ b=none
 bsz:X.base.objs.size≤X.s₀.heap.objs.size
 noex:∀ b o,X.base.get? b=some o->b ∉ X.ex
 exfs:∀ b∈X.ex,b ∉ X.fs
 funs:X.s₀.heap.FunFrames X.base X.outer
 frf:∀ b∈X.fs,X.H₀ b=none
structure Inv (X:Cx)(pins:List (Addr × Obj))(σ:List (Option V))(H:Hp)(s:Shared):Prop where
 ok:X.Ok
 os:s.os=X.s₀.os
 bare:AllBare s.gens
 base:Un X.fs X.ex X.H₀ H X.s₀.heap s.heap
 loc:∃ m,s.heap.Ns X.env.locals m∧∀ (i:Nat)(x:Str)(v:V),X.N[i]?=some x->σ[i]?=some (some v)->DQ X.env.scope x->∃ u,aE v u∧D6 X.env s.heap m x u
 cell:∀ x c,X.env.cells.lookup x=some c->∃ v,s.heap.IsCell c v
 free:H X.env.locals=none
 freeC:∀ x c,X.env.cells.lookup x=some c->H c=none
 pin:∀ p∈X.pn++pins,s.heap.get? p.1=some p.2∧H p.1=none∧p.1≠X.env.locals∧p.1 ∉ X.fs∧∀ v,p.2.data ≠ .cell v
 hok:eK X.prog X.w H s.heap
 len:σ.length=X.N.length
section
variable {X:Cx}{pins:List (Addr × Obj)}{σ:List (Option V)}{H H':Hp}{s:Shared}{h':Heap}
theorem Cx.Ok.nofr (ok:X.Ok){b:Addr}{o:Obj}(e:X.base.get? b=some o):b ∉ X.fs:=fun hb=>by
 have:=(ok.funs.mem hb).1
 rw [e] at this; cases this
theorem Inv.bs (I:Inv X pins σ H s):∀ b o,X.base.get? b=some o->s.heap.get? b=some o∧H b=none:=fun b o e =>
 ⟨I.base.keep b o (I.ok.bs b o e).1 (I.ok.bs b o e).2 (I.ok.nofr e) (I.ok.noex b o e),I.base.free b o (I.ok.bs b o e).1 (I.ok.bs b o e).2 (I.ok.noex b o e)⟩
theorem Inv.bk (I:Inv X pins σ H s):∀ b o,X.base.get? b=some o->s.heap.get? b=some o:=fun b o e=>(I.bs b o e).1
theorem Inv.mod (I:Inv X pins σ H s):Mod X.K X.mg X.base:=I.ok.mod
theorem Inv.kIn (I:Inv X pins σ H s):X.K.In s.heap:=I.ok.mod.kin.keeps I.bk
theorem Inv.lt (I:Inv X pins σ H s):X.env.locals < s.heap.objs.size:=let ⟨_,hn,_⟩:=I.loc; hn.lt
theorem Inv.sz (I:Inv X pins σ H s):X.s₀.heap.objs.size≤s.heap.objs.size:=Nat.le_trans I.ok.above (Nat.le_of_lt I.lt)
theorem Inv.nofs (I:Inv X pins σ H s){a:Addr}(h:s.heap.objs.size≤a):a ∉ X.fs:=fun hb=>by
 obtain ⟨_,o,ho,_⟩:=I.ok.funs.mem hb
 exact absurd (Nat.lt_of_lt_of_le (Heap.lt_size ho) (Nat.le_trans I.sz h)) (Nat.lt_irrefl _)
theorem Inv.cne (I:Inv X pins σ H s):∀ x c,X.env.cells.lookup x=some c->c≠X.env.locals:=fun x c e z=>by
 obtain ⟨v,o,ho,hd⟩:=I.cell x c e
 obtain ⟨m,⟨o',es,ep,ho',hd',_⟩,_⟩:=I.loc
 rw [z,ho'] at ho; cases ho; rw [hd'] at hd; cases hd
theorem Inv.funs (I:Inv X pins σ H s):s.heap.FunFrames X.base X.outer:=by
 have all:∀ (l:List Env),(∀ b∈di l,b∈X.fs)->X.s₀.heap.FunFrames X.base l->s.heap.FunFrames X.base l:=by
  intro l
  induction l with
  | nil=>intro _ _; trivial
  | cons env r ih =>
    intro hs hl
    obtain ⟨hk,⟨L,o,hf,hn,ho,hd⟩,hr⟩:=hl
    have hL:L∈X.fs:=hs L (by unfold di; rw [List.filterMap_cons,hf]; exact List.mem_cons_self)
    obtain ⟨sl,e⟩:=I.base.slot L o ho (I.ok.frf L hL) hL fun z=>I.ok.exfs L z hL
    exact ⟨hk,⟨L,_,hf,hn,e,hd⟩,ih (fun b hb=>hs b (by unfold di; rw [List.filterMap_cons,hf]; exact List.mem_cons_of_mem _ hb)) hr⟩
 exact all X.outer (fun _ hb=>hb) I.ok.funs
theorem Inv.stack (I:Inv X pins σ H s):s.heap.FunFrames X.base X.stack:=by
 rcases I.ok.stk with e | ⟨e,hf⟩
 ·rw [e]; exact I.funs
 ·rw [e]
  obtain ⟨m,hn,_⟩:=I.loc
  refine .cons (by rw [I.ok.kind]; decide) hf hn ?_ I.funs
  exact Heap.get?_none_of_le (Nat.le_trans I.ok.bsz I.ok.above)
theorem Inv.stkSub (I:Inv X pins σ H s):∀ b∈di X.stack,b∈X.env.locals :: X.fs:=fun b hb=>by
 rcases I.ok.stk with e | ⟨e,hf⟩
 ·rw [e] at hb; exact List.mem_cons_of_mem _ hb
 ·rw [e] at hb
  unfold di at hb
  rw [List.filterMap_cons,hf] at hb
  exact hb
theorem Inv.stkFree (I:Inv X pins σ H s):∀ b∈di X.stack,H b=none:=fun b hb=>by
 rcases List.mem_cons.mp (I.stkSub b hb) with e | hb
 ·rw [e]; exact I.free
 ·obtain ⟨_,o,ho,_⟩:=I.ok.funs.mem hb
  exact I.base.free b o ho (I.ok.frf b hb) fun z=>I.ok.exfs b z hb
theorem Inv.step {g':Array GenState}{t':Nat}{d':Drawn}{ch:List Addr}(I:Inv X pins σ H s)
 (hch:∀ b∈ch,(b∈X.ex∨X.s₀.heap.objs.size≤b)∧b≠X.env.locals∧(∀ x c,X.env.cells.lookup x=some c->c≠b)∧∀ p∈X.pn++pins,p.1≠b)
 (keep:∀ b o,b≠X.env.locals->b ∉ X.fs->b ∉ ch->s.heap.get? b=some o->H b=none->h'.get? b=some o)
 (slot:∀ b o,b≠X.env.locals->b∈X.fs->b ∉ ch->s.heap.get? b=some o->H b=none->∃ sl,h'.get? b=some { o with slots:=sl })(free:∀ b o,b ∉ ch->s.heap.get? b=some o->H b=none->H' b=none)
 (there:∀ b o,b ∉ ch->s.heap.get? b=some o->∃ o',h'.get? b=some o')
 (tups:∀ b xs,H b=some (.tup xs)->H' b=some (.tup xs))(frzs:∀ b o u,H b=some (.frz o u)->H' b=some (.frz o u))(tbls:∀ b ps,H b=some (.tbl ps)->∃ more,H' b=some (.tbl (ps++more)))
 (ns:∀ m,s.heap.Ns X.env.locals m->h'.Ns X.env.locals m)(hok:eK X.prog X.w H' h')(hg:AllBare g'):
 Inv X pins σ H' { s with heap:=h',gens:=g',drawn:=d',toks:=t' }:=by
 have neL:∀ b o,X.s₀.heap.get? b=some o->b≠X.env.locals:=fun b o e=>Nat.ne_of_lt (Nat.lt_of_lt_of_le (Heap.lt_size e) I.ok.above)
 have neC:∀ b o,X.s₀.heap.get? b=some o->b ∉ X.ex->b ∉ ch:=fun b o e hx hb=>by
  rcases (hch b hb).1 with z | z
  ·exact hx z
  ·exact absurd (Nat.lt_of_lt_of_le (Heap.lt_size e) z) (Nat.lt_irrefl _)
 have cellK:∀ x c,X.env.cells.lookup x=some c->∀ v,s.heap.IsCell c v->h'.IsCell c v:=fun x c e v ⟨o,ho,hd⟩=>by
  have nch:c ∉ ch:=fun z=>(hch c z).2.2.1 x c e rfl
  by_cases hc:c∈X.fs
  ·obtain ⟨sl,q⟩:=slot c o (I.cne x c e) hc nch ho (I.freeC x c e)
   exact ⟨_,q,hd⟩
  ·exact ⟨o,keep c o (I.cne x c e) hc nch ho (I.freeC x c e),hd⟩
 refine ⟨I.ok,I.os,hg,⟨fun b o e n hb hx=>?_,fun b o e n hb hx=>?_,fun b o e n hx=>?_,fun b o e hx=>?_,fun b xs e=>tups b xs (I.base.tups b xs e),fun b o xs e=>frzs b o xs (I.base.frzs b o xs e),fun b ps e=>?_⟩,?_,fun x c e=>?_,?_,fun x c e=>?_,fun p hp=>?_,hok,I.len⟩
 ·exact keep b o (neL b o e) hb (neC b o e hx) (I.base.keep b o e n hb hx) (I.base.free b o e n hx)
 ·obtain ⟨sl,e1⟩:=I.base.slot b o e n hb hx
  obtain ⟨sl',e2⟩:=slot b _ (neL b o e) hb (neC b o e hx) e1 (I.base.free b o e n hx)
  exact ⟨sl',e2⟩
 ·obtain ⟨o',e1⟩:=I.base.there b o e hx
  exact free b o' (neC b o e hx) e1 (I.base.free b o e n hx)
 ·obtain ⟨o',e1⟩:=I.base.there b o e hx
  exact there b o' (neC b o e hx) e1
 ·obtain ⟨m1,e1⟩:=I.base.tbls b ps e
  obtain ⟨m2,e2⟩:=tbls b _ e1
  exact ⟨m1++m2,by rw [e2,Array.append_assoc]⟩
 ·obtain ⟨m,hn,hl⟩:=I.loc
  refine ⟨m,ns m hn,fun i x v e1 e2 e3=>?_⟩
  obtain ⟨u,r,l⟩:=hl i x v e1 e2 e3
  refine ⟨u,r,?_⟩
  rcases l with l | ⟨k,c,e,z⟩
  ·exact .inl l
  ·exact .inr ⟨k,c,e,cellK x c e _ z⟩
 ·obtain ⟨v,z⟩:=I.cell x c e
  exact ⟨v,cellK x c e v z⟩
 ·obtain ⟨m,⟨o,_,_,ho,_⟩,_⟩:=I.loc
  exact free _ o (fun z=>(hch _ z).2.1 rfl) ho I.free
 ·obtain ⟨v,o,ho,hd⟩:=I.cell x c e
  exact free c o (fun z=>(hch c z).2.2.1 x c e rfl) ho (I.freeC x c e)
 ·obtain ⟨e,n,ne,nf,d⟩:=I.pin p hp
  have nch:p.1 ∉ ch:=fun z=>(hch p.1 z).2.2.2 p hp rfl
  exact ⟨keep p.1 p.2 ne nf nch e n,free p.1 p.2 nch e n,ne,nf,d⟩
theorem Inv.un {t':Nat}(I:Inv X pins σ H s)(u:Un X.fs [] H H' s.heap h')(hok:eK X.prog X.w H' h'):Inv X pins σ H' { s with heap:=h',toks:=t' }:=by
 obtain ⟨m,⟨o,es,ep,ho,r⟩,_⟩:=id I.loc
 obtain ⟨sl,hL⟩:=u.any ho I.free (by simp)
 exact I.step (g':=s.gens) (d':=s.drawn) (ch:=[]) (fun _ z=>nomatch z) (fun b o _ hb _ e n=>u.keep b o e n hb (by simp)) (fun b o _ hb _ e n=>u.slot b o e n hb (by simp)) (fun b o _ e n=>u.free b o e n (by simp)) (fun b o _ e=>u.there b o e (by simp)) u.tups u.frzs u.tbls (fun m' hm=>by
  obtain ⟨o',es',ep',ho',r'⟩:=hm
  rw [ho] at ho'; cases ho'
  exact ⟨_,es',ep',hL,r'⟩) hok I.bare
theorem Inv.call {g':Array GenState}{t':Nat}{d':Drawn}{ch:List Addr}(I:Inv X pins σ H s)(u:Un (di X.stack) ch H H' s.heap h')(hok:eK X.prog X.w H' h')(hg:AllBare g')
 (hch:∀ b∈ch,(b∈X.ex∨X.s₀.heap.objs.size≤b)∧b≠X.env.locals∧(∀ x c,X.env.cells.lookup x=some c->c≠b)∧∀ p∈X.pn++pins,p.1≠b):
 Inv X pins σ H' { s with heap:=h',gens:=g',drawn:=d',toks:=t' }:=by
 obtain ⟨m,⟨o,es,ep,ho,r⟩,_⟩:=id I.loc
 obtain ⟨sl,hL⟩:=u.any ho I.free fun z=>(hch _ z).2.1 rfl
 exact I.step (ch:=ch) hch (fun b o hL hb hc e n=>u.keep b o e n (fun z=>(List.mem_cons.mp (I.stkSub b z)).elim hL hb) hc) (fun b o _ _ hc e n=>u.any e n hc) (fun b o hc e n=>u.free b o e n hc) (fun b o hc e=>u.there b o e hc) u.tups u.frzs u.tbls (fun m' hm=>by
  obtain ⟨o',es',ep',ho',r'⟩:=hm
  rw [ho] at ho'; cases ho'
  exact ⟨_,es',ep',hL,r'⟩) hok hg
theorem Inv.turned {t':Nat}{it:Addr}(I:Inv X pins σ H s)(k:∀ b o,b≠it->s.heap.get? b=some o->h'.get? b=some o)(hn:H it=none)(hL:it≠X.env.locals)
 (h1:it∈X.ex∨X.s₀.heap.objs.size≤it)(h2:∀ x c,X.env.cells.lookup x=some c->c≠it)(h3:∀ p∈X.pn++pins,p.1≠it):Inv X pins σ H { s with heap:=h',toks:=t' }:=by
 have nit:∀ b u,H b=some u->b≠it:=fun b u e z=>by rw [z,hn] at e; cases e
 refine I.step (g':=s.gens) (d':=s.drawn) (ch:=[it]) (fun b hb=>?_) (fun b o _ _ hc e _=>k b o (fun z=>hc (by simp [z])) e) (fun b o _ _ hc e _=>⟨o.slots,k b o (fun z=>hc (by simp [z])) e⟩) (fun _ _ _ _ n=>n)
  (fun b o hc e=>⟨o,k b o (fun z=>hc (by simp [z])) e⟩) (fun _ _ e=>e) (fun _ _ _ e=>e) (fun b ps e=>⟨#[],by rw [e]; simp⟩) (fun m hm=>?_) (fun b u e=>?_) I.bare
 ·have e:b=it:=by simpa using hb
  subst e
  exact ⟨h1,hL,h2,h3⟩
 ·obtain ⟨o,es,ep,ho,r⟩:=hm
  exact ⟨o,es,ep,k _ o (Ne.symm hL) ho,r⟩
 ·refine (I.hok b u e).stay (fun c v hc q=>k c v ?_ q) (fun _ q=>q) fun _ _ q=>q
  rcases hc with z | z
  ·rw [z]; exact nit b u e
  ·exact nit c _ z
theorem Inv.tok (I:Inv X pins σ H s)(t:Nat):Inv X pins σ H { s with toks:=t }:=I.un (h':=s.heap) (t':=t) Un.refl I.hok
theorem Inv.kept {t':Nat}(I:Inv X pins σ H s)(k:∀ b u,s.heap.get? b=some u->h'.get? b=some u):Inv X pins σ H { s with heap:=h',toks:=t' }:=I.un (Un.kept k) (I.hok.kept k)
theorem Inv.laid {a:Addr}{o:HO}{t':Nat}(I:Inv X pins σ H s)(k:∀ b u,s.heap.get? b=some u->h'.get? b=some u)(hp:s.heap.objs.size≤a)(new:bc X.prog X.w (upd H a o) h' a o):
 Inv X pins σ (upd H a o) { s with heap:=h',toks:=t' }:=I.un (Un.laid k hp (I.hok.fresh hp)) (I.hok.laid k hp new)
theorem Inv.write {x e:Addr}{o:HO}{t':Nat}(I:Inv X pins σ H s)(mu:C1 (H x))(he:e=x∨H e=some (.own x))(k:∀ b u,b≠e->s.heap.get? b=some u->h'.get? b=some u)(heo:∃ u,h'.get? e=some u)
 (new:bc X.prog X.w (upd H x o) h' x o):Inv X pins σ (upd H x o) { s with heap:=h',toks:=t' }:=I.un (Un.write mu he k heo) (I.hok.write mu he k heo new)
theorem Inv.pins_of {pins':List (Addr × Obj)}(I:Inv X pins σ H s)(h:∀ p∈pins',s.heap.get? p.1=some p.2∧H p.1=none∧p.1≠X.env.locals∧p.1 ∉ X.fs∧∀ v,p.2.data ≠ .cell v):Inv X pins' σ H s :=
 ⟨I.ok,I.os,I.bare,I.base,I.loc,I.cell,I.free,I.freeC,fun p hp=>(List.mem_append.mp hp).elim (fun z=>I.pin p (List.mem_append_left _ z)) (h p),I.hok,I.len⟩
theorem ka {N:List Str}(hN:N.Nodup){i j:Nat}{x:Str}(a:N[i]?=some x)(b:N[j]?=some x):i=j:=by
 obtain ⟨h1,e1⟩:=List.getElem?_eq_some_iff.mp a
 obtain ⟨h2,e2⟩:=List.getElem?_eq_some_iff.mp b
 exact (List.getElem_inj hN).mp (e1.trans e2.symm)
theorem lV {M:Model}{A:Around}{E:Value->Shared->Prop}{i:Nat}{x:Str}{v:V}{u:Value}{Q:Unit->Shared->Prop}(I:Inv X pins σ H s)(hN:X.N.Nodup)(hi:X.N[i]?=some x)(hx:CB X.env.scope x)(r:aE v u)
 (h:∀ s',Inv X pins (σ.set i (some v)) H s'->(∃ a,Heap.SameBut a s.heap s'.heap∧(a=X.env.locals∨X.env.cells.lookup x=some a))->Q () s')(hf:X.fn x=true∨X.env.scope.names.lookup x=some .local:=by first | exact .inl rfl | exact .inr rfl | assumption):wpAny M A (storeName X.env x u) Q E s:=by
 obtain ⟨m,hn,hl⟩:=id I.loc
 have hcls:(X.env.scope.kind == .class || (X.env.scope.kind == .module&&X.env.locals != X.env.globals))=false:=by rw [I.ok.kind]; rfl
 have hiσ:i < σ.length:=by rw [I.len]; exact (List.getElem?_eq_some_iff.mp hi).1
 have cne:=I.cne
 have tracked:∀ {a:Addr}{h':Heap},(∃ o,s.heap.get? a=some o∧H a=none)->Heap.SameBut a s.heap h'->eK X.prog X.w H h':=fun {a h'} ha hs b ob e=>by
  obtain ⟨_,_,hfree⟩:=ha
  refine (I.hok b ob e).stay (fun c w' hc q=>(hs.2 c ?_).trans q) (fun _ q=>q) fun _ _ q=>q
  rintro rfl
  rcases hc with rfl | hc
  ·rw [hfree] at e; cases e
  ·rw [hfree] at hc; cases hc
 rcases hx with hk | hk
 ·refine wpAny_storeName_local hk hn (fun h' hn' hs=>?_) hcls
  obtain ⟨oL,_,_,hoL,_⟩:=id hn
  refine h _ ⟨I.ok,I.os,I.bare,⟨fun b o e n hb hx=>?_,fun b o e n hb hx=>?_,I.base.free,fun b o e hx=>?_,I.base.tups,I.base.frzs,I.base.tbls⟩,⟨_,hn',fun j y v' e1 e2 e3=>?_⟩,fun y c e=>?_,I.free,I.freeC,fun p hp=>?_,tracked ⟨oL,hoL,I.free⟩ hs,by simpa using I.len⟩ ⟨_,hs,.inl rfl⟩
  ·exact (hs.2 b (Nat.ne_of_lt (Nat.lt_of_lt_of_le (Heap.lt_size e) I.ok.above))).trans (I.base.keep b o e n hb hx)
  ·obtain ⟨sl,e1⟩:=I.base.slot b o e n hb hx
   exact ⟨sl,(hs.2 b (Nat.ne_of_lt (Nat.lt_of_lt_of_le (Heap.lt_size e) I.ok.above))).trans e1⟩
  ·obtain ⟨o',e1⟩:=I.base.there b o e hx
   exact ⟨o',(hs.2 b (Nat.ne_of_lt (Nat.lt_of_lt_of_le (Heap.lt_size e) I.ok.above))).trans e1⟩
  ·by_cases hj:j=i
   ·subst hj
    rw [hi] at e1; cases e1
    rw [List.getElem?_set_self hiσ] at e2
    cases e2
    exact ⟨u,r,.inl ⟨hk,by simp⟩⟩
   ·rw [List.getElem?_set_ne (Ne.symm hj)] at e2
    obtain ⟨u',r',q⟩:=hl j y v' e1 e2 e3
    refine ⟨u',r',?_⟩
    rcases q with ⟨k,e⟩ | ⟨k,c,e,z⟩
    ·refine .inl ⟨k,?_⟩
     have:y≠x:=fun e=>hj (ka hN e1 (e ▸ hi))
     simp [this,e]
    ·exact .inr ⟨k,c,e,z.sameBut hs (cne y c e)⟩
  ·obtain ⟨w',z⟩:=I.cell y c e
   exact ⟨w',z.sameBut hs (cne y c e)⟩
  ·obtain ⟨e,n,ne,nf,d⟩:=I.pin p hp
   exact ⟨(hs.2 p.1 ne).trans e,n,ne,nf,d⟩
 ·have hfn:X.fn x=true:=by
   rcases hf with z | z
   ·exact z
   ·rw [z] at hk; cases hk
  obtain ⟨c,hc⟩:=I.ok.has x (.inl hk)
  obtain ⟨w',z⟩:=I.cell x c hc
  refine wpAny_storeName_cell I.ok.kind hk hc z (fun h' hc' hs=>?_)
  obtain ⟨oc,hoc,hocd⟩:=id z
  refine h { s with heap:=h' } ⟨I.ok,I.os,I.bare,⟨fun b o e n hb hx=>?_,fun b o e n hb hx=>?_,I.base.free,fun b o e hx=>?_,I.base.tups,I.base.frzs,I.base.tbls⟩,⟨m,hn.sameBut hs (Ne.symm (cne x c hc)),fun j y v' e1 e2 e3=>?_⟩,fun y c' e=>?_,I.free,I.freeC,fun p hp=>?_,tracked ⟨oc,hoc,I.freeC x c hc⟩ hs,by simpa using I.len⟩ ⟨c,hs,.inr hc⟩
  ·exact (hs.2 b (Nat.ne_of_lt (Nat.lt_of_lt_of_le (Heap.lt_size e) (I.ok.cab x c hfn hc)))).trans (I.base.keep b o e n hb hx)
  ·obtain ⟨sl,e1⟩:=I.base.slot b o e n hb hx
   exact ⟨sl,(hs.2 b (Nat.ne_of_lt (Nat.lt_of_lt_of_le (Heap.lt_size e) (I.ok.cab x c hfn hc)))).trans e1⟩
  ·obtain ⟨o',e1⟩:=I.base.there b o e hx
   exact ⟨o',(hs.2 b (Nat.ne_of_lt (Nat.lt_of_lt_of_le (Heap.lt_size e) (I.ok.cab x c hfn hc)))).trans e1⟩
  ·by_cases hj:j=i
   ·subst hj
    rw [hi] at e1; cases e1
    rw [List.getElem?_set_self hiσ] at e2
    cases e2
    exact ⟨u,r,.inr ⟨.inl hk,c,hc,hc'⟩⟩
   ·rw [List.getElem?_set_ne (Ne.symm hj)] at e2
    obtain ⟨u',r',q⟩:=hl j y v' e1 e2 e3
    refine ⟨u',r',?_⟩
    rcases q with q | ⟨k,c',e,z'⟩
    ·exact .inl q
    ·refine .inr ⟨k,c',e,z'.sameBut hs ?_⟩
     rintro rfl
     exact hj (ka hN e1 (I.ok.inj _ _ _ e hc ▸ hi))
  ·by_cases hcc:c'=c
   ·subst hcc; exact ⟨_,hc'⟩
   ·obtain ⟨w2,z2⟩:=I.cell y c' e
    exact ⟨w2,z2.sameBut hs hcc⟩
  ·obtain ⟨e,n,ne,nf,d⟩:=I.pin p hp
   refine ⟨(hs.2 p.1 ?_).trans e,n,ne,nf,d⟩
   intro q
   rw [q,hoc] at e
   have q':oc=p.2:=Option.some.inj e
   exact d w' (by rw [← q']; exact hocd)
theorem eU {M:Model}{A:Around}{E:Value->Shared->Prop}{i:Nat}{x:Str}{v:V}{u:Value}{Q:Unit->Shared->Prop}(I:Inv X pins σ H s)(hN:X.N.Nodup)(hi:X.N[i]?=some x)(hx:CB X.env.scope x)(r:aE v u)
 (h:∀ s',Inv X pins (σ.set i (some v)) H s'->Q () s')(hf:X.fn x=true∨X.env.scope.names.lookup x=some .local:=by first | exact .inl rfl | exact .inr rfl | assumption):wpAny M A (storeName X.env x u) Q E s :=
 lV I hN hi hx r (fun s' I' _=>h s' I') hf
theorem Inv.call' {s':Shared}{ch:List Addr}(I:Inv X pins σ H s)(ho:s'.os=s.os)(u:Un (di X.stack) ch H H' s.heap s'.heap)(hok:eK X.prog X.w H' s'.heap)(hg:AllBare s'.gens)
 (hch:∀ b∈ch,(b∈X.ex∨X.s₀.heap.objs.size≤b)∧b≠X.env.locals∧(∀ x c,X.env.cells.lookup x=some c->c≠b)∧∀ p∈X.pn++pins,p.1≠b):Inv X pins σ H' s':=by
 obtain ⟨h',g',d',t',o'⟩:=s'
 have e:o'=s.os:=ho
 subst e
 exact I.call (g':=g') (t':=t') (d':=d') u hok hg hch
end
abbrev XK:=Value->Option Addr->Hp->Prop
abbrev St:=List (Option V)
abbrev VK:=V->Hp->Prop
abbrev TE:=St->Hp->VK->Prop
abbrev TT:=St->Hp->(Bool->Hp->Prop)->Prop
abbrev TA:=St->Hp->(List V->Hp->Prop)->Prop
structure Ends where
 nx:St->Hp->Prop
 rt:VK
 bk:St->Hp->Prop:=fun _ _=>False
 ct:St->Hp->Prop:=fun _ _=>False
abbrev TS:=Ends->St->Hp->Prop
def EP (X:Cx)(pins:List (Addr × Obj))(σ:St)(Q:VK)(u:Value)(s':Shared):Prop:=∃ v H',Inv X pins σ H' s'∧aE v u∧Q v H'
def TP (X:Cx)(pins:List (Addr × Obj))(σ:St)(Q:Bool->Hp->Prop)(b:Bool)(s':Shared):Prop:=∃ H',Inv X pins σ H' s'∧Q b H'
def AP (X:Cx)(pins:List (Addr × Obj))(σ:St)(Q:List V->Hp->Prop)(us:List Value)(s':Shared):Prop:=∃ vs H',Inv X pins σ H' s'∧aG vs us∧Q vs H'
def SP (X:Cx)(pins:List (Addr × Obj))(D:Ends)(f:Flow)(s':Shared):Prop :=
 match f with
 | .next=>∃ σ' H',Inv X pins σ' H' s'∧D.nx σ' H'
 | .brk=>∃ σ' H',Inv X pins σ' H' s'∧D.bk σ' H'
 | .cont=>∃ σ' H',Inv X pins σ' H' s'∧D.ct σ' H'
 | .ret u=>∃ v σ' H',Inv X pins σ' H' s'∧aE v u∧D.rt v H'
def PE (X:Cx)(e:Expr)(t:TE):Prop :=
 ∀ (pins:List (Addr × Obj))(s:Shared)(σ:St)(H:Hp)(Q:VK),Inv X pins σ H s->t σ H Q->wpAny (model X.prog X.w) X.A (eval e X.env) (EP X pins σ Q) X.xe s
def PT (X:Cx)(e:Expr)(t:TT):Prop :=
 ∀ (pins:List (Addr × Obj))(s:Shared)(σ:St)(H:Hp)(Q:Bool->Hp->Prop),Inv X pins σ H s->t σ H Q->wpAny (model X.prog X.w) X.A (isTrue e X.env (eval e X.env)) (TP X pins σ Q) X.xe s
def PW (X:Cx)(e:Expr)(t:TT):Prop :=
 ∀ (cp:Sem Value)(pins:List (Addr × Obj))(s:Shared)(σ:St)(H:Hp)(Q:Bool->Hp->Prop),Inv X pins σ H s->t σ H Q->wpAny (model X.prog X.w) X.A (isTrue e X.env cp) (TP X pins σ Q) X.xe s
theorem PW.pt {X:Cx}{e:Expr}{t:TT}(h:PW X e t):PT X e t:=h _
def PA (X:Cx)(es:List Expr)(t:TA):Prop :=
 ∀ (pos:Pos)(pins:List (Addr × Obj))(s:Shared)(σ:St)(H:Hp)(Q:List V->Hp->Prop),Inv X pins σ H s->t σ H Q->wpAny (model X.prog X.w) X.A (spliced (backTo pos (starEach es X.env))) (AP X pins σ Q) X.xe s
def PS (X:Cx)(st:Stmt)(t:TS):Prop :=
 ∀ (pins:List (Addr × Obj))(s:Shared)(σ:St)(H:Hp)(D:Ends),Inv X pins σ H s->t D σ H->wpAny (model X.prog X.w) X.A (exec st X.env) (SP X pins D) X.xe s
def gB (X:Cx)(st:List Stmt)(t:TS):Prop :=
 ∀ (pins:List (Addr × Obj))(s:Shared)(σ:St)(H:Hp)(D:Ends),Inv X pins σ H s->t D σ H->wpAny (model X.prog X.w) X.A (execs st X.env) (SP X pins D) X.xe s
theorem bH {α:Type}{t:Sem α}{Q Q':α->Shared->Prop}{M:Model}{A:Around}{E:Value->Shared->Prop}{s:Shared}(h:wpAny M A t Q E s)(hQ:∀ a s,Q a s->Q' a s):wpAny M A t Q' E s:=wpAny_mono h hQ fun _ _ x=>x
section
variable {X:Cx}
def dF (i:Nat):TE:=fun σ H Q=>∃ v,σ[i]?=some (some v)∧Q v H
def tC (v:V):TE:=fun _ H Q=>Q v H
theorem Bm {i:Nat}{x:Str}{pos:Pos}(hN:X.N[i]?=some x)(hv:DQ X.env.scope x)(hd:(x == ("__debug__":Str))=false:=by decide)(hcd:(x == ("__classdict__":Str))=false:=by decide):PE X (.Name x pos) (dF i):=by
 intro pins s σ H Q I h
 obtain ⟨v,e,h⟩:=h
 obtain ⟨m,hn,hl⟩:=I.loc
 obtain ⟨u,r,l⟩:=hl i x v hN e hv
 have fin:EP X pins σ Q u s:=⟨v,H,I,r,h⟩
 rcases l with ⟨hk,hm⟩ | ⟨hk,c,hc,hcell⟩
 ·exact wpAny_Name (wpAny_loadName_local I.ok.kind hk hn hm fin) hd
 ·rcases hk with hk | hk
  ·exact wpAny_Name (wpAny_loadName_cell I.ok.kind hk hc hcell fin) hd
  ·exact wpAny_Name (wpAny_loadName_free I.ok.kind hk hc hcell fin hcd) hd
theorem ai {i j pos}:PE X (.Constant (.int i) j pos) (tC (.int i)):=fun _ _ _ H _ I h=>wpAny_Constant_int ⟨.int i,H,I.tok _,⟨_,rfl⟩,h⟩
theorem c7 {b j pos}:PE X (.Constant (.bool b) j pos) (tC (.bl b)):=fun _ _ _ H _ I h=>Constant_bool ⟨.bl b,H,I,rfl,h⟩
theorem eW {j pos}:PE X (.Constant .none j pos) (tC .non):=fun _ _ _ H _ I h=>Constant_none ⟨.non,H,I,rfl,h⟩
theorem gr {x j pos}:PE X (.Constant (.str x) j pos) (tC (.str x)):=fun _ _ _ H _ I h=>Calls.Constant_str ⟨.str x,H,I.tok _,⟨_,rfl⟩,h⟩
def Gl (X:Cx)(x:Str):Prop:=X.env.kindOf x=some .globalImplicit
theorem c4 {E:Value->Shared->Prop}{pins:List (Addr × Obj)}{s:Shared}{σ:St}{H:Hp}{x:Str}{u:Value}{pos:Pos}{Q:Value->Shared->Prop}(I:Inv X pins σ H s)(hg:Gl X x)(hm:X.mg x=some u)(h:Q u s)
 (hd:(x == ("__debug__":Str))=false:=by decide):wpAny (model X.prog X.w) X.A (eval (.Name x pos) X.env) Q E s :=
 Calls.Name_function_global I.ok.kind hg (Calls.loadGlobal_global (by rw [I.ok.glob]; exact I.mod.glob.keeps I.bk) hm h) hd
theorem dm {E:Value->Shared->Prop}{pins:List (Addr × Obj)}{s:Shared}{σ:St}{H:Hp}{x:Str}{u:Value}{pos:Pos}{Q:Value->Shared->Prop}(I:Inv X pins σ H s)(hg:Gl X x)(hm:X.mg x=none)(hv:bootBuiltins x=some u)(h:Q u s)
 (hn:x ≠ "__name__":=by decide)(hd:(x == ("__debug__":Str))=false:=by decide):wpAny (model X.prog X.w) X.A (eval (.Name x pos) X.env) Q E s:=by
 obtain ⟨mb,h1,h2⟩:=I.mod.blt
 exact Calls.Name_function_global I.ok.kind hg (Calls.loadGlobal_builtin (by rw [I.ok.glob]; exact I.mod.glob.keeps I.bk) hm (by rw [I.ok.blt]; exact h1.keeps I.bk) ((h2 x hn).trans hv) h) hd
theorem dh {x:Str}{v:V}{u:Value}{pos:Pos}(hg:Gl X x)(hm:X.mg x=some u)(r:aE v u)(hd:(x == ("__debug__":Str))=false:=by decide):PE X (.Name x pos) (tC v):=
 fun _ _ _ H _ I h=>c4 I hg hm ⟨v,H,I,r,h⟩ hd
theorem cA {x:Str}{v:V}{u:Value}{pos:Pos}(hg:Gl X x)(hm:X.mg x=none)(hv:bootBuiltins x=some u)(r:aE v u)(hn:x ≠ "__name__":=by decide)(hd:(x == ("__debug__":Str))=false:=by decide):PE X (.Name x pos) (tC v):=
 fun _ _ _ H _ I h=>dm I hg hm hv ⟨v,H,I,r,h⟩ hn hd
variable {a b:Expr}{ta tb:TE}{pos:Pos}
def PC (X:Cx)(op:CmpOp)(a b:Expr)(t:TE):Prop :=
 ∀ (pins:List (Addr × Obj))(s:Shared)(σ:St)(H:Hp)(Q:VK),Inv X pins σ H s->t σ H Q →
   wpAny (model X.prog X.w) X.A (eval a X.env) (fun v s₁=>wpAny (model X.prog X.w) X.A (eval b X.env) (fun u s₂=>wpAny (model X.prog X.w) X.A (compareOp op v u) (EP X pins σ Q) X.xe s₂) X.xe s₁) X.xe s
def tB (t:TE):TT:=fun σ H Q=>t σ H fun x H1=>∃ c,x = .bl c∧Q c H1
theorem Bi {op:CmpOp}{t:TE}(h:PC X op a b t)(h1:behindInMarks op b=false:=by first | exact nobehind _ (by decide) (by decide) | rfl):PT X (.Compare a [op] [b] pos) (tB t):=by
 intro pins s σ H Q I hw
 refine wpAny_isTrue_Compare1 (bH (h pins s σ H _ I hw) fun v s1 h1=>bH h1 fun u s2 h2=>bH h2 fun c s3 ⟨x,H1,I1,r1,q1⟩=>?_) h1
 obtain ⟨d,rfl,q⟩:=q1
 cases r1
 exact wpAny_truthy_bool ⟨H1,I1,q⟩
theorem cb {e:Expr}{t:TE}(h:PE X e t)(he:∀ cp,isTrue e X.env cp=(do let v ← cp; standAt e.pos; holding [v] (truthy v)):=by intro _; rfl):PT X e (tB t):=by
 intro pins s σ H Q I hw
 refine isTrue_plain (bH (h pins s σ H _ I hw) fun v s1 ⟨x,H1,I1,r1,q1⟩=>?_) (he _)
 obtain ⟨d,rfl,q⟩:=q1
 cases r1
 exact wpAny_truthy_bool ⟨H1,I1,q⟩
variable {tA tB':TT}{rest:List Expr}
def Ey (t u:TT):TT:=fun σ H Q=>t σ H fun c H1=>if c=true then u σ H1 Q else Q false H1
def Fk (t u:TT):TT:=fun σ H Q=>t σ H fun c H1=>if c=true then Q true H1 else u σ H1 Q
def D0 (t:TT):TT:=fun σ H Q=>t σ H fun c H1=>Q (!c) H1
theorem sk (ha:PT X a tA):PW X (.BoolOp .And [a] pos) tA:=by
 intro wh pins s σ H Q I h
 refine isTrue_and (bH (ha pins s σ H Q I h) fun c s1 e=>?_)
 cases c with
 | true=>exact isTrue_and_nil e
 | false=>exact e
theorem de (ha:PT X a tA):PW X (.BoolOp .Or [a] pos) tA:=by
 intro wh pins s σ H Q I h
 refine isTrue_or (bH (ha pins s σ H Q I h) fun c s1 e=>?_)
 cases c with
 | false=>exact isTrue_or_nil e
 | true=>exact e
theorem xG (ha:PT X a tA)(hb:PW X (.BoolOp .And (b :: rest) pos) tB'):PW X (.BoolOp .And (a :: b :: rest) pos) (Ey tA tB'):=by
 intro wh pins s σ H Q I h
 refine isTrue_and (bH (ha pins s σ H _ I h) fun c s1 ⟨H1,I1,q1⟩=>?_)
 cases c with
 | true=>exact hb wh pins s1 σ H1 Q I1 q1
 | false=>exact ⟨H1,I1,q1⟩
theorem cH (ha:PT X a tA)(hb:PW X (.BoolOp .Or (b :: rest) pos) tB'):PW X (.BoolOp .Or (a :: b :: rest) pos) (Fk tA tB'):=by
 intro wh pins s σ H Q I h
 refine isTrue_or (bH (ha pins s σ H _ I h) fun c s1 ⟨H1,I1,q1⟩=>?_)
 cases c with
 | true=>exact ⟨H1,I1,q1⟩
 | false=>exact hb wh pins s1 σ H1 Q I1 q1
theorem cc (ha:PT X a tA):PT X (.UnaryOp .Not a pos) (D0 tA):=by
 intro pins s σ H Q I h
 exact isTrue_not (ha pins s σ H (fun c H1=>Q (!c) H1) I h)
def CM (ta tb:TE):TE:=fun σ H Q=>ta σ H fun x H1=>∃ c,x = .bl c∧if c=true then tb σ H1 Q else Q (.bl false) H1
def CC (ta:TE):TE:=fun σ H Q=>ta σ H fun x H1=>∃ c,x = .bl c∧Q (.bl (!c)) H1
theorem dO {op}{t:TE}(h:PE X a t):PE X (.BoolOp op [a] pos) t:=fun pins s σ H Q I hw=>BoolOp_one (h pins s σ H Q I hw)
theorem cW (ha:PE X a ta)(hb:PE X (.BoolOp .And (b :: rest) pos) tb):PE X (.BoolOp .And (a :: b :: rest) pos) (CM ta tb):=by
 intro pins s σ H Q I h
 refine BoolOp_and (bH (ha pins s σ H _ I h) fun v s1 ⟨x,H1,I1,r1,q1⟩=>?_)
 obtain ⟨c,rfl,q1⟩:=q1
 cases r1
 refine wpAny_truthy_bool ?_
 cases c with
 | true=>exact hb pins s1 σ H1 Q I1 q1
 | false=>exact ⟨.bl false,H1,I1,rfl,q1⟩
theorem wH (ha:PE X a ta):PE X (.UnaryOp .Not a pos) (CC ta):=by
 intro pins s σ H Q I h
 refine UnaryOp_ (bH (ha pins s σ H _ I h) fun v s1 ⟨x,H1,I1,r1,q1⟩=>?_)
 obtain ⟨c,rfl,q1⟩:=q1
 cases r1
 exact not_of (wpAny_truthy_bool ⟨.bl (!c),H1,I1,rfl,q1⟩)
def Fl (t:TT)(ta tb:TE):TE:=fun σ H Q=>t σ H fun c H1=>if c=true then ta σ H1 Q else tb σ H1 Q
theorem xn {c:Expr}(hc:PT X c tA)(ha:PE X a ta)(hb:PE X b tb):PE X (.IfExp c a b pos) (Fl tA ta tb):=by
 intro pins s σ H Q I h
 refine wpAny_IfExp (bH (hc pins s σ H _ I h) fun d s1 ⟨H1,I1,q1⟩=>?_)
 cases d with
 | true=>exact ha pins s1 σ H1 Q I1 q1
 | false=>exact hb pins s1 σ H1 Q I1 q1
end
def br (K:PySem.W.Frag)(H:Hp)(a:Addr)(xs:List V):Prop :=
 Rd H a (.lst xs) ∨
  ∃ (o:Obj)(its:Array Value)(n:Nat),K.lookup a=some o∧o.cls = .type "list"∧o.dict=none∧o.data = .seq its n∧its.size≤sizeLine∧aG xs its.toList
def bf (K:PySem.W.Frag)(H:Hp)(a:Addr)(xs:List V):Prop :=
 Rd H a (.tup xs) ∨
  ∃ (o:Obj)(its:Array Value)(n:Nat),K.lookup a=some o∧o.cls = .type "tuple"∧o.data = .seq its n∧its.size≤sizeLine∧aG xs its.toList
def Ei:Value->Option V
 | .none=>some .non
 | .bool b=>some (.bl b)
 | .int i _=>some (.int i)
 | .str x _=>some (.str x)
 | .bytes b _=>some (.byt b)
 | .float b _=>some (.flt b)
 | .ref a=>some (.ref a)
 | .type n=>some (.ty n)
 | _=>none
theorem aE.abs {x:V}{u:Value}(r:aE x u):Ei u=some x:=by
 cases x with
 | non=>cases r; rfl
 | bl _=>cases r; rfl
 | int _=>obtain ⟨t,rfl⟩:=r; rfl
 | str _=>obtain ⟨t,rfl⟩:=r; rfl
 | byt _=>obtain ⟨t,rfl⟩:=r; rfl
 | flt _=>obtain ⟨t,rfl⟩:=r; rfl
 | ref _=>cases r; rfl
 | ty _=>cases r; rfl
theorem aE.inj {x y:V}{u:Value}(r:aE x u)(q:aE y u):x=y:=Option.some.inj (r.abs.symm.trans q.abs)
theorem aG.inj:∀ {xs ys:List V}{us:List Value},aG xs us->aG ys us->xs=ys
 | _,_,_,.nil,.nil=>rfl
 | _,_,_,.cons r t,.cons r' t'=>by rw [r.inj r',aG.inj t t']
section
variable {X:Cx}{pins:List (Addr × Obj)}{σ:St}{H:Hp}{s:Shared}{a:Addr}{xs ys:List V}
theorem br.of {K:PySem.W.Frag}(h:H a=some (.lst xs)):br K H a xs:=.inl (.inl h)
theorem bf.of {K:PySem.W.Frag}(h:H a=some (.tup xs)):bf K H a xs:=.inl (.inl h)
theorem Inv.list (I:Inv X pins σ H s)(h:br X.K H a xs):∃ its:List Value,aG xs its∧PlainL s.heap a its.toArray∧xs.length≤sizeLine:=by
 rcases h with h | ⟨o,its,n,hk,hc,hd,hs,hz,r⟩
 ·obtain ⟨z,its,n,r,e⟩:=h.ok I.hok
  exact ⟨its,r,⟨_,n,e,rfl,rfl,rfl⟩,z⟩
 ·refine ⟨its.toList,r,⟨o,n,I.kIn a o hk,hc,hd,by simpa using hs⟩,?_⟩
  have e:=r.length
  simp only [Array.length_toList] at e
  omega
theorem Inv.tuple (I:Inv X pins σ H s)(h:bf X.K H a xs):∃ its:List Value,aG xs its∧IsTup s.heap a its.toArray∧xs.length≤sizeLine:=by
 rcases h with h | ⟨o,its,n,hk,hc,hs,hz,r⟩
 ·obtain ⟨z,its,r,p⟩:=h.ok I.hok
  exact ⟨its,r,p,z⟩
 ·refine ⟨its.toList,r,⟨o,I.kIn a o hk,hc,n,by simpa using hs⟩,?_⟩
  have e:=r.length
  simp only [Array.length_toList] at e
  omega
theorem Inv.list_inj (I:Inv X pins σ H s)(h:br X.K H a xs)(h':br X.K H a ys):xs=ys:=by
 obtain ⟨its,r,⟨o,n,e,_,_,d⟩,_⟩:=I.list h
 obtain ⟨its',r',⟨o',n',e',_,_,d'⟩,_⟩:=I.list h'
 rw [e] at e'; cases e'
 rw [d] at d'
 injection d' with d1 _
 have:its=its':=by simpa using congrArg Array.toList d1
 subst this
 exact r.inj r'
theorem Inv.tuple_inj (I:Inv X pins σ H s)(h:bf X.K H a xs)(h':bf X.K H a ys):xs=ys:=by
 obtain ⟨its,r,⟨o,e,_,n,d⟩,_⟩:=I.tuple h
 obtain ⟨its',r',⟨o',e',_,n',d'⟩,_⟩:=I.tuple h'
 rw [e] at e'; cases e'
 rw [d] at d'
 injection d' with d1 _
 have:its=its':=by simpa using congrArg Array.toList d1
 subst this
 exact r.inj r'
end
abbrev Cx.wish (X:Cx)(E:Value->Shared->Prop):Cx:={ X with xe:=E }
abbrev Cx.nox (X:Cx):Cx:=X.wish fun _ _=>False
theorem Cx.Ok.wish {X:Cx}(ok:X.Ok)(E:Value->Shared->Prop):(X.wish E).Ok :=
 ⟨ok.mod,ok.kind,ok.glob,ok.blt,ok.above,ok.inj,ok.has,ok.cab,ok.hd,ok.frames,ok.stk,ok.exf,ok.bs,ok.bsz,ok.noex,ok.exfs,ok.funs,ok.frf⟩
theorem Cx.Ok.unwish {X:Cx}{E:Value->Shared->Prop}(ok:(X.wish E).Ok):X.Ok :=
 ⟨ok.mod,ok.kind,ok.glob,ok.blt,ok.above,ok.inj,ok.has,ok.cab,ok.hd,ok.frames,ok.stk,ok.exf,ok.bs,ok.bsz,ok.noex,ok.exfs,ok.funs,ok.frf⟩
section
variable {X:Cx}{pins:List (Addr × Obj)}{σ:St}{H:Hp}{s:Shared}{E:Value->Shared->Prop}
theorem Inv.wish (I:Inv X pins σ H s)(E:Value->Shared->Prop):Inv (X.wish E) pins σ H s:=⟨I.ok.wish E,I.os,I.bare,I.base,I.loc,I.cell,I.free,I.freeC,I.pin,I.hok,I.len⟩
theorem Inv.unwish (I:Inv (X.wish E) pins σ H s):Inv X pins σ H s:=⟨I.ok.unwish,I.os,I.bare,I.base,I.loc,I.cell,I.free,I.freeC,I.pin,I.hok,I.len⟩
theorem SP.unwish {D:Ends}{f:Flow}{s':Shared}(h:SP (X.wish E) pins D f s'):SP X pins D f s':=by
 cases f with
 | next=>obtain ⟨σ',H',I,q⟩:=h; exact ⟨σ',H',I.unwish,q⟩
 | brk=>obtain ⟨σ',H',I,q⟩:=h; exact ⟨σ',H',I.unwish,q⟩
 | cont=>obtain ⟨σ',H',I,q⟩:=h; exact ⟨σ',H',I.unwish,q⟩
 | ret u=>obtain ⟨v,σ',H',I,r,q⟩:=h; exact ⟨v,σ',H',I.unwish,r,q⟩
theorem gB.nox {st:List Stmt}{t:TS}(h:gB X.nox st t):gB X st t:=fun pins s σ H D I hw =>
 wpAny_mono (h pins s σ H D (I.wish _) hw) (fun _ _ q=>q.unwish) fun _ _ z=>False.elim z
end
section
variable {X:Cx}{st:Stmt}{rest:List Stmt}{t u:TS}{e:Expr}{te:TE}{pos:Pos}
def tNext:TS:=fun D σ H=>D.nx σ H
def uV (t u:TS):TS:=fun D σ H=>t { D with nx:=u D } σ H
theorem aO:gB X [] tNext:=fun _ _ σ H _ I h=>wpAny_execs_nil ⟨σ,H,I,h⟩
theorem ao (h1:PS X st t)(h2:gB X rest u):gB X (st :: rest) (uV t u):=by
 intro pins s σ H D I h
 refine wpAny_execs_cons (bH (h1 pins s σ H { D with nx:=u D } I h) fun f s1 q=>?_)
 cases f with
 | next =>
   obtain ⟨σ',H',I',q⟩:=q
   exact h2 pins s1 σ' H' D I' q
 | ret v=>exact q
 | brk=>exact q
 | cont=>exact q
theorem av (h1:PS X st t):gB X [st] t:=by
 intro pins s σ H D I h
 refine wpAny_execs_cons (bH (h1 pins s σ H D I h) fun f s1 q=>?_)
 cases f with
 | next=>exact wpAny_execs_nil q
 | ret v=>exact q
 | brk=>exact q
 | cont=>exact q
theorem Inv.quiet {pins:List (Addr × Obj)}{σ:St}{H:Hp}{s:Shared}(I:Inv X pins σ H s):interactive X.env=false:=by simp [interactive,I.ok.kind]
def Dm (te:TE):TS:=fun D σ H=>te σ H fun _ H1=>D.nx σ H1
theorem fU (he:PE X e te)(hs:swapsWith e none pos.line X.env=pure false:=by rfl):PS X (.Expr e pos) (Dm te):=by
 intro pins s σ H D I h
 exact wpAny_Expr_any (bH (he pins s σ H _ I h) fun v s1 ⟨x,H1,I1,r1,q1⟩=>⟨σ,H1,I1,q1⟩) I.quiet hs
def Em (te:TE):TS:=fun D σ H=>te σ H D.rt
theorem aD (he:PE X e te):PS X (.Return (some e) pos) (Em te):=by
 intro pins s σ H D I h
 exact wpAny_Return_some (bH (he pins s σ H _ I h) fun v s1 ⟨x,H1,I1,r1,q1⟩=>⟨x,σ,H1,I1,r1,q1⟩)
def Ek (c:TT)(t u:TS):TS:=fun D σ H=>c σ H fun b H1=>if b=true then t D σ H1 else u D σ H1
theorem bJ {c:Expr}{a b:List Stmt}{tc:TT}(hc:PT X c tc)(ha:gB X a t)(hb:gB X b u):PS X (.If c a b pos) (Ek tc t u):=by
 intro pins s σ H D I h
 refine wpAny_If (bH (hc pins s σ H _ I h) fun d s1 ⟨H1,I1,q1⟩=>?_)
 cases d with
 | true=>exact ha pins s1 σ H1 D I1 q1
 | false=>exact hb pins s1 σ H1 D I1 q1
def tNever:TS:=fun _ _ _=>False
theorem vF {sts:List Stmt}:gB X sts tNever:=fun _ _ _ _ _ _ h=>h.elim
end
abbrev TG:=V->St->Hp->(St->Hp->Prop)->Prop
abbrev TGs:=List V->St->Hp->(St->Hp->Prop)->Prop
def PG (X:Cx)(target:Expr)(t:TG):Prop :=
 ∀ (pins:List (Addr × Obj))(s:Shared)(σ:St)(H:Hp)(v:V)(u:Value)(Q:St->Hp->Prop),Inv X pins σ H s->aE v u->t v σ H Q →
   wpAny (model X.prog X.w) X.A (assign target X.env u) (fun _ s'=>∃ σ' H',Inv X pins σ' H' s'∧Q σ' H') X.xe s
def DS (X:Cx)(ts:List Expr)(t:TGs):Prop :=
 ∀ (pins:List (Addr × Obj))(s:Shared)(σ:St)(H:Hp)(vs:List V)(us:List Value)(Q:St->Hp->Prop),Inv X pins σ H s->aG vs us->t vs σ H Q →
   wpAny (model X.prog X.w) X.A (assignInOrder ((assignEach ts X.env).map (·.2)) us) (fun _ s'=>∃ σ' H',Inv X pins σ' H' s'∧Q σ' H') X.xe s
abbrev Bc:=V->V->V->Hp->(Hp->Prop)->Prop
def CS (X:Cx)(t:Bc):Prop :=
 ∀ (pins:List (Addr × Obj))(s:Shared)(σ:St)(H:Hp)(o i v:V)(ov iv u:Value)(Q:Hp->Prop),Inv X pins σ H s->aE o ov->aE i iv->aE v u->t o i v H Q →
   wpAny (model X.prog X.w) X.A (setItem ov iv u) (fun _ s'=>∃ H',Inv X pins σ H' s'∧Q H') X.xe s
section
variable {X:Cx}{pos:Pos}
def bZ (i:Nat):TG:=fun v σ H Q=>Q (σ.set i (some v)) H
theorem aR {i:Nat}{x:Str}(hN:X.N.Nodup)(hi:X.N[i]?=some x)(hx:CB X.env.scope x)(hf:X.fn x=true∨X.env.scope.names.lookup x=some .local:=by first | exact .inl rfl | exact .inr rfl | assumption):PG X (.Name x pos) (bZ i):=by
 intro pins s σ H v u Q I r h
 exact wpAny_assign_Name (eU I hN hi hx r (fun s' I'=>⟨_,H,I',h⟩) hf)
def gNil:TGs:=fun vs σ H Q=>vs=[]∧Q σ H
def cS (t:TG)(u:TGs):TGs:=fun vs σ H Q=>∃ v r,vs=v :: r∧t v σ H fun σ' H'=>u r σ' H' Q
theorem c0:DS X [] gNil:=by
 intro pins s σ H vs us Q I r h
 obtain ⟨e,h⟩:=h
 subst e
 cases r
 exact assignInOrder_nil ⟨σ,H,I,h⟩
theorem bo {e:Expr}{es:List Expr}{t:TG}{u:TGs}(h1:PG X e t)(h2:DS X es u)
 (hs:(assignEach (e :: es) X.env).map (·.2)=assign e X.env :: (assignEach es X.env).map (·.2):=by rfl):DS X (e :: es) (cS t u):=by
 intro pins s σ H vs us Q I r h
 obtain ⟨v,vr,e1,h⟩:=h
 subst e1
 cases r with
 | cons r rr =>
   rw [hs]
   refine assignInOrder_cons (bH (h1 pins s σ H _ _ _ I r h) fun _ s1 ⟨σ1,H1,I1,q1⟩=>?_)
   exact h2 pins s1 σ1 H1 _ _ Q I1 rr q1
def nv (K:PySem.W.Frag)(n:Nat)(t:TGs):TG:=fun v σ H Q=>∃ a xs,v = .ref a∧bf K H a xs∧xs.length=n∧t xs σ H Q
theorem dX {es:List Expr}{k:Nat}{t:TGs}{n:Nat}(hc:X.calm=true)(h:DS X es t)
 (hn:(assignEach es X.env).length=n:=by rfl)(hst:(assignEach es X.env).findIdx? (·.1)=none:=by rfl):PG X (.Tuple es k pos) (nv X.K n t):=by
 intro pins s σ H v u Q I r hw
 obtain ⟨a,xs,e1,hq,hl,hw⟩:=hw
 subst e1
 cases r
 obtain ⟨its,rv,ht,hz⟩:=I.tuple hq
 refine assign_Tuple_tuple (I.ok.hd hc) ht (by simp [hn,← hl,rv.length]) hst fun h' hx=>?_
 have I1:Inv X pins σ H { s with heap:=h' }:=I.kept (t':=s.toks) fun b o e=>hx b o (Nat.ne_of_lt (Heap.lt_size e)) e
 exact h pins _ σ H xs _ Q I1 (by simpa using rv) hw
def ED (to ti:TE)(t:Bc):TG:=fun v σ H Q=>to σ H fun o H1=>ti σ H1 fun i H2=>t o i v H2 fun H3=>Q σ H3
theorem m8 {o i:Expr}{to ti:TE}{t:Bc}(ho:PE X o to)(hi:PE X i ti)(hs:CS X t)
 (ha:∀ v,assign (.Subscript o i pos) X.env v=(do
  let ov ← holding [v] (eval o X.env)
  let iv ← holding [v,ov] (eval i X.env)
  standAt pos
  holding [v,ov,iv] (setItem ov iv v)
  release [v,ov,iv] []):=by intro _; rfl):PG X (.Subscript o i pos) (ED to ti t):=by
 intro pins s σ H v u Q I r h
 rw [ha]
 refine wpAny_bind (wpAny_holding (bH (ho pins s σ H _ I h) fun ov s1 ⟨x,H1,I1,r1,q1⟩=>?_))
 refine wpAny_bind (wpAny_holding (bH (hi pins s1 σ H1 _ I1 q1) fun iv s2 ⟨y,H2,I2,r2,q2⟩=>?_))
 refine wpAny_bind (wpAny_standAt (wpAny_bind (wpAny_holding (bH (hs pins s2 σ H2 x y v ov iv u _ I2 r1 r2 r q2) fun _ s3 ⟨H3,I3,q3⟩=>?_))))
 exact wpAny_release ⟨σ,H3,I3,q3⟩
def oO (te:TE)(g:TG):TS:=fun D σ H=>te σ H fun x H1=>g x σ H1 D.nx
theorem ij {tg e:Expr}{te:TE}{g:TG}(he:PE X e te)(hg:PG X tg g)(hs:swapsWithSole [tg] e pos.line X.env=pure false:=by rfl)(hw:swappedStores [tg] e X.env=pure none:=by rfl)
 (h1:(assignEach [tg] X.env).map (·.2)=[assign tg X.env]:=by rfl):PS X (.Assign [tg] e pos) (oO te g):=by
 intro pins s σ H D I h
 refine wpAny_Assign_stores (bH (he pins s σ H _ I h) fun v s1 ⟨x,H1,I1,r1,q1⟩=>?_) hs hw
 rw [h1]
 exact bH (hg pins s1 σ H1 x v _ I1 r1 q1) fun _ s2 q=>q
theorem aS {i:Nat}{x:Str}{e:Expr}{te:TE}{pos':Pos}(hN:X.N.Nodup)(hi:X.N[i]?=some x)(hx:CB X.env.scope x)(he:PE X e te)(hs:swapsWith e (some (.Name x pos')) pos.line X.env=pure false:=by rfl)(hf:X.fn x=true∨X.env.scope.names.lookup x=some .local:=by first | exact .inl rfl | exact .inr rfl | assumption):
 PS X (.Assign [.Name x pos'] e pos) (oO te (bZ i)):=by
 intro pins s σ H D I h
 refine wpAny_Assign_Name (bH (he pins s σ H _ I h) fun v s1 ⟨y,H1,I1,r1,q1⟩=>?_) hs
 exact eU I1 hN hi hx r1 (fun s2 I2=>⟨_,H1,I2,q1⟩) hf
def Eh (i j:Nat)(ta:TA):TS:=fun D σ H=>ta σ H fun vs H1=>∃ v w,vs=[v,w]∧D.nx ((σ.set i (some v)).set j (some w)) H1
theorem yp {i j:Nat}{x y:Str}{a b:Expr}{ta:TA}{px py pt:Pos} {kt k2 pt2}(hc:X.calm=true)(hN:X.N.Nodup)(hi:X.N[i]?=some x)(hj:X.N[j]?=some y)(hij:i≠j)
 (hx:X.env.scope.names.lookup x=some .local)(hy:X.env.scope.names.lookup y=some .local)(ha:PA X [a,b] ta)
 (hw:swappedStores [.Tuple [.Name x px,.Name y py] kt pt] (.Tuple [a,b] k2 pt2) X.env=pure (some [x,y]))
 (hs:swapsWithSole [.Tuple [.Name x px,.Name y py] kt pt] (.Tuple [a,b] k2 pt2) pos.line X.env=pure false:=by rfl):
 PS X (.Assign [.Tuple [.Name x px,.Name y py] kt pt] (.Tuple [a,b] k2 pt2) pos) (Eh i j ta):=by
 intro pins s σ H D I h
 rw [exec_Assign_arm]
 refine wpAny_bind (wpAny_standAt ?_)
 rw [hs]
 refine wpAny_bind (wpAny_pure ?_)
 rw [if_neg (by decide)]
 refine wpAny_bind (Tuple_ (bH (ha _ pins s σ H _ I h) fun us s1 ⟨vs,H1,I1,r1,q1⟩=>?_))
 obtain ⟨v,w,e1,q1⟩:=q1
 subst e1
 obtain ⟨u1,u2,rfl,rv,rw'⟩:∃ u1 u2,us=[u1,u2]∧aE v u1∧aE w u2:=by
  cases r1 with
  | cons p q =>
    cases q with
    | cons p' q' =>
      cases q'
      exact ⟨_,_,rfl,p,p'⟩
 refine wpAny_newObj_type ?_ kQ
 have I2:Inv X pins σ H1 { s1 with heap:=s1.heap.push { cls:=.type "tuple",data:=.seq [u1,u2].toArray } }:=I1.kept (t':=s1.toks) fun b o e=>Heap.get?_push_of_some _ e
 rw [hw]
 refine wpAny_bind (wpAny_pure ?_)
 show wpAny (model X.prog X.w) X.A (do rule "assign.swapped-stores"; let items ← unpackItems (.ref s1.heap.objs.size) 2 none; assignInOrder [fun v=>bindName X.env y v,fun v=>bindName X.env x v] items.reverse; pure Flow.next) _ _ _
 refine wpAny_bind (wpAny_rule (wpAny_bind (unpackItems_tuple (items:=#[u1,u2]) (I.ok.hd hc) (IsTup.new s1.heap _) fun h' hx'=>?_)))
 have I3:=I2.kept (h':=h') (t':=s1.toks) fun b o e=>hx' b o (Nat.ne_of_lt (Heap.lt_size e)) e
 show wpAny _ _ (assignInOrder [fun v=>bindName X.env y v,fun v=>bindName X.env x v] [u2,u1] >>= fun _=>pure Flow.next) _ _ _
 refine wpAny_bind (assignInOrder_cons (wpAny_bindName (eU I3 hN hj (.inl hy) rw' (fun s2 I4=>?_) (.inr hy))))
 refine assignInOrder_cons (wpAny_bindName (eU I4 hN hi (.inl hx) rv (fun s3 I5=>assignInOrder_nil (wpAny_pure ?_)) (.inr hx)))
 rw [List.set_comm _ _ (Ne.symm hij)] at I5
 exact ⟨_,H1,I5,q1⟩
def Bd (c:TT)(tb:TS):TS:=fun D σ H=>∃ W:Nat->St->Hp->Prop,(∃ m,W m σ H)∧∀ m σ H,W m σ H →
 c σ H fun b H1=>if b=true then ∃ N:St->Hp->Prop,(∀ σ' H',N σ' H'->∃ m',m' < m∧W m' σ' H')∧tb { D with nx:=N,ct:=N,bk:=D.nx } σ H1 else D.nx σ H1
theorem p4 {c:Expr}{body:List Stmt}{tc:TT}{tb:TS}(hp:PassesOwn (model X.prog X.w) X.A X.env X.xe)(hc:PT X c tc)(hb:gB X body tb):PS X (.While c body [] pos) (Bd tc tb):=by
 intro pins s σ H D I h
 obtain ⟨W,⟨m0,w0⟩,turn⟩:=h
 refine wpAny_While (codeAny_whileLoop (fun n s'=>∃ σ' H',Inv X pins σ' H' s'∧W n σ' H') ?_ m0 ⟨σ,H,I,w0⟩)
 rintro n s1 ⟨σ1,H1,I1,w1⟩
 refine wpAny_passesOwn hp (bH (hc pins s1 σ1 H1 _ I1 (turn n σ1 H1 w1)) fun b s2 ⟨H2,I2,q2⟩=>?_)
 cases b with
 | true =>
   obtain ⟨N,hN,q2⟩:=q2
   rw [if_pos rfl]
   refine wpAny_passesOwn hp (bH (hb pins s2 σ1 H2 _ I2 q2) fun f s3 q3=>?_)
   cases f with
   | next =>
     obtain ⟨σ3,H3,I3,n3⟩:=q3
     obtain ⟨m',hm,w3⟩:=hN σ3 H3 n3
     exact ⟨m',hm,σ3,H3,I3,w3⟩
   | cont =>
     obtain ⟨σ3,H3,I3,n3⟩:=q3
     obtain ⟨m',hm,w3⟩:=hN σ3 H3 n3
     exact ⟨m',hm,σ3,H3,I3,w3⟩
   | brk=>exact q3
   | ret v=>exact q3
 | false =>
   rw [if_neg Bool.false_ne_true]
   exact wpAny_execs_nil ⟨σ1,H2,I2,q2⟩
end
structure It where
 go:Nat->Hp->Prop
 yld:Nat->Hp->V->Hp->Prop
 stop:Nat->Hp->Prop
def cQ (X:Cx)(pins:List (Addr × Obj))(H:Hp)(b:Addr):Prop :=
 H b=none∧b≠X.env.locals∧b ∉ X.fs∧(b∈X.ex∨X.s₀.heap.objs.size≤b)∧(∀ x c,X.env.cells.lookup x=some c->c≠b)∧∀ p∈X.pn++pins,p.1≠b
theorem Inv.fpOk {X:Cx}{pins:List (Addr × Obj)}{σ:St}{H H':Hp}{s:Shared}{b:Addr}(I:Inv X pins σ H s)(hb:s.heap.objs.size≤b)(hn:H' b=none):cQ X pins H' b:=by
 refine ⟨hn,Nat.ne_of_gt (Nat.lt_of_lt_of_le I.lt hb),I.nofs hb,.inr (Nat.le_trans I.sz hb),fun x c e z=>?_,fun p hp z=>?_⟩
 ·obtain ⟨v,q⟩:=I.cell x c e
  exact absurd (Nat.lt_of_lt_of_le q.lt (by rw [z]; exact hb)) (Nat.lt_irrefl _)
 ·exact absurd (Nat.lt_of_lt_of_le (Heap.lt_size (I.pin p hp).1) (by rw [z]; exact hb)) (Nat.lt_irrefl _)
structure Turn (P:Program)(w:World)(K:PySem.W.Frag)(tg:Expr)(J:It)(fp:List Addr)(it:Addr)(tn:Nat->Heap->Prop):Prop where
 mem:it∈fp
 obj:∀ i h,tn i h->∀ b∈fp,∃ o,h.get? b=some o∧∀ v,o.data ≠ .cell v
 keep:∀ i h h',tn i h->(∀ b∈fp,∀ o,h.get? b=some o->h'.get? b=some o)->tn i h'
 item:∀ (X:Cx),X.prog=P->X.w=w->X.K=K->X.calm=true->∀ (i:Nat)(pins:List (Addr × Obj))(s:Shared)(σ:St)(H:Hp)(E:Value->Shared->Prop),Inv X pins σ H s->(∀ b∈fp,cQ X pins H b)->tn i s.heap->J.go i H →
  wpAny (model P w) X.A (pyNext (.ref it)) (fun r s1=>∃ u,r=some u ∧
   wpAny (model P w) X.A (letOwnedTupleGo tg (.ref it) u) (fun _ s2=>∃ x H',Inv X pins σ H' s2∧aE x u∧J.yld i H x H'∧tn (i + 1) s2.heap∧∀ b∈fp,H' b=none) E s1) E s
 done:∀ (X:Cx),X.prog=P->X.w=w->X.K=K->X.calm=true->∀ (i:Nat)(pins:List (Addr × Obj))(s:Shared)(σ:St)(H:Hp)(E:Value->Shared->Prop),Inv X pins σ H s->(∀ b∈fp,cQ X pins H b)->tn i s.heap->J.stop i H →
  wpAny (model P w) X.A (pyNext (.ref it)) (fun r s1=>r=none∧Inv X pins σ H s1) E s
 self:∀ (A:Around)(i:Nat)(s:Shared)(Q:Value->Shared->Prop)(E:Value->Shared->Prop),tn i s.heap->Q (.ref it) s->wpAny (model P w) A (pyIter (.ref it)) Q E s
abbrev TI:=St->Hp->(It->Hp->Prop)->Prop
def EL (X:Cx)(pins:List (Addr × Obj))(σ:St)(tg:Expr)(R:It->Hp->Prop)(itv:Value)(s2:Shared):Prop :=
 ∃ (it:Addr)(fp:List Addr)(tn:Nat->Heap->Prop)(J:It)(H':Hp),itv = .ref it∧Inv X pins σ H' s2∧Turn X.prog X.w X.K tg J fp it tn∧tn 0 s2.heap∧(∀ b∈fp,cQ X pins H' b)∧R J H'
def PI (X:Cx)(tg iter:Expr)(wi:TI):Prop :=
 ∀ (pins:List (Addr × Obj))(s:Shared)(σ:St)(H:Hp)(R:It->Hp->Prop),Inv X pins σ H s->wi σ H R →
   wpAny (model X.prog X.w) X.A (eval iter X.env) (fun v s1=>wpAny (model X.prog X.w) X.A (pyIter v) (EL X pins σ tg R) X.xe s1) X.xe s
theorem rM {M:Model}{A:Around}{E:Value->Shared->Prop}{s:Shared}{tg:Expr}{it:Addr}{u:Value}{o:Obj}{n:String}{vs:Array Value}{Q:Unit->Shared->Prop}(ho:s.heap.get? it=some o)(hc:o.cls = .type n)(hd:o.data = .fields vs)
 (hn:["enumerate","zip","dict_itemiterator","dict_reverseitemiterator","odict_iterator","itertools.zip_longest","itertools.pairwise"].contains n=false)(hQ:Q () s):wpAny M A (letOwnedTupleGo tg (.ref it) u) Q E s:=by
 unfold letOwnedTupleGo
 cases tg <;> first
  | exact wpAny_pure hQ
  | (cases u <;> first
   | exact wpAny_pure hQ
   | (refine wpAny_bind (wpAny_load ho ?_)
      rw [hc,hd]
      show wpAny M A (if (["enumerate","zip","dict_itemiterator","dict_reverseitemiterator","odict_iterator","itertools.zip_longest","itertools.pairwise"].contains n&&vs[0]? == some (rawInt _))=true then _ else _) Q E s
      rw [if_neg (by intro h; rw [hn,Bool.false_and] at h; cases h)]
      exact wpAny_pure hQ))
def Ct (K:PySem.W.Frag)(a:Addr):It :=
 ⟨fun i H=>∃ xs x,br K H a xs∧xs[i]?=some x,fun i H x H'=>H'=H∧∀ xs,br K H a xs->xs[i]?=some x,fun i H=>∃ xs,br K H a xs∧xs.length≤i⟩
def EI (K:PySem.W.Frag)(a:Addr):It :=
 ⟨fun i H=>∃ xs x,bf K H a xs∧xs[i]?=some x,fun i H x H'=>H'=H∧∀ xs,bf K H a xs->xs[i]?=some x,fun i H=>∃ xs,bf K H a xs∧xs.length≤i⟩
def A7 (lo:Int)(n:Nat):It:=⟨fun i _=>i < n,fun i H x H'=>H'=H∧x = .int (lo + i),fun i _=>n≤i⟩
theorem uL {P:Program}{w:World}{K:PySem.W.Frag}{tg:Expr}(a it:Addr):Turn P w K tg (Ct K a) [it] it (fun i h=>h.IsListIter it a i) where
 mem:=by simp
 obj:=fun i h st b hb=>by
  have e:b=it:=by simpa using hb
  subst e
  obtain ⟨o,e,c,d⟩:=st
  exact ⟨o,e,fun v z=>by rw [d] at z; cases z⟩
 keep:=fun i h h' st k=>st.at fun o e=>k it (by simp) o e
 item:=by
  intro X hP hw hK hc i pins s σ H E I hf st hg
  subst hP hw hK
  obtain ⟨xs,x,hq,hx⟩:=hg
  obtain ⟨its,rv,p,hz⟩:=I.list hq
  obtain ⟨u,hu,ru⟩:=rv.get hx
  obtain ⟨f0,f1,f2,f3,f4,f5⟩:=hf it (by simp)
  refine wpAny_pyNext_list_item st p.isList (x:=u) (by simpa using hu) fun h' st' sb=>?_
  have I1:Inv X pins σ H { s with heap:=h' }:=I.turned (t':=s.toks) (fun b o hb e=>(sb.2 b hb).trans e) f0 f1 f3 f4 f5
  obtain ⟨o,e,c,d⟩:=id st'
  exact ⟨u,rfl,rM (s:={ s with heap:=h' }) e c d (by decide) ⟨x,H,I1,ru,⟨rfl,fun ys hy=>by rw [I.list_inj hy hq]; exact hx⟩,st',fun b hb=>(hf b hb).1⟩⟩
 done:=by
  intro X hP hw hK hc i pins s σ H E I hf st hg
  subst hP hw hK
  obtain ⟨xs,hq,hx⟩:=hg
  obtain ⟨its,rv,p,hz⟩:=I.list hq
  obtain ⟨f0,f1,f2,f3,f4,f5⟩:=hf it (by simp)
  have hl:=rv.length
  exact wpAny_pyNext_list_end (I.ok.hd hc) st p.isList (by simp; omega) fun h' eb=>⟨rfl,I.turned (t':=s.toks) (fun b o hb e=>eb b o hb e) f0 f1 f3 f4 f5⟩
 self:=fun _ _ _ _ _ st h=>wpAny_pyIter_listiter st h
theorem qO {P:Program}{w:World}{K:PySem.W.Frag}{tg:Expr}(a it:Addr):Turn P w K tg (EI K a) [it] it (fun i h=>h.IsTupleIter it a i) where
 mem:=by simp
 obj:=fun i h st b hb=>by
  have e:b=it:=by simpa using hb
  subst e
  obtain ⟨o,e,c,d⟩:=st
  exact ⟨o,e,fun v z=>by rw [d] at z; cases z⟩
 keep:=fun i h h' st k=>st.at fun o e=>k it (by simp) o e
 item:=by
  intro X hP hw hK hc i pins s σ H E I hf st hg
  subst hP hw hK
  obtain ⟨xs,x,hq,hx⟩:=hg
  obtain ⟨its,rv,p,hz⟩:=I.tuple hq
  obtain ⟨u,hu,ru⟩:=rv.get hx
  obtain ⟨f0,f1,f2,f3,f4,f5⟩:=hf it (by simp)
  refine wpAny_pyNext_tuple_item st (show s.heap.IsTuple a its.toArray from p) (x:=u) (by simpa using hu) fun h' st' sb=>?_
  have I1:Inv X pins σ H { s with heap:=h' }:=I.turned (t':=s.toks) (fun b o hb e=>(sb.2 b hb).trans e) f0 f1 f3 f4 f5
  obtain ⟨o,e,c,d⟩:=id st'
  exact ⟨u,rfl,rM (s:={ s with heap:=h' }) e c d (by decide) ⟨x,H,I1,ru,⟨rfl,fun ys hy=>by rw [I.tuple_inj hy hq]; exact hx⟩,st',fun b hb=>(hf b hb).1⟩⟩
 done:=by
  intro X hP hw hK hc i pins s σ H E I hf st hg
  subst hP hw hK
  obtain ⟨xs,hq,hx⟩:=hg
  obtain ⟨its,rv,p,hz⟩:=I.tuple hq
  obtain ⟨f0,f1,f2,f3,f4,f5⟩:=hf it (by simp)
  have hl:=rv.length
  exact wpAny_pyNext_tuple_end (I.ok.hd hc) st (show s.heap.IsTuple a its.toArray from p) (by simp; omega) fun h' eb=>⟨rfl,I.turned (t':=s.toks) (fun b o hb e=>eb b o hb e) f0 f1 f3 f4 f5⟩
 self:=fun _ _ _ _ _ st h=>wpAny_pyIter_tupleiter st h
theorem qW {P:Program}{w:World}{K:PySem.W.Frag}{tg:Expr}(it:Addr)(lo:Int)(n:Nat):Turn P w K tg (A7 lo n) [it] it (fun i h=>IsRangeIter h it (lo + (i:Nat) * 1) ((n:Int) - (i:Nat)) 1) where
 mem:=by simp
 obj:=fun i h st b hb=>by
  have e:b=it:=by simpa using hb
  subst e
  exact ⟨_,st,fun v z=>by
   have z':Data.fields _=Data.cell v:=z
   cases z'⟩
 keep:=fun i h h' st k=>k it (by simp) _ st
 item:=by
  intro X hP hw hK hc i pins s σ H E I hf st hg
  subst hP hw hK
  obtain ⟨f0,f1,f2,f3,f4,f5⟩:=hf it (by simp)
  have W:=Walks.range (prog:=X.prog) (w:=X.w) (I.ok.hd hc) it lo 1 n
  refine W.item i s _ _ hg st fun v h' tk hv st' kk=>?_
  obtain ⟨t,rfl⟩:=hv
  have I1:Inv X pins σ H { s with heap:=h',toks:=tk }:=I.turned (fun b o hb e=>kk b o (by simpa using hb) e) f0 f1 f3 f4 f5
  refine ⟨_,rfl,rM (s:={ s with heap:=h',toks:=tk }) (n:="range_iterator") st' rfl rfl (by decide) ⟨.int (lo + i),H,I1,⟨t,?_⟩,⟨rfl,rfl⟩,st',fun b hb=>(hf b hb).1⟩⟩
  rw [Int.mul_one]
 done:=by
  intro X hP hw hK hc i pins s σ H E I hf st hg
  subst hP hw hK
  obtain ⟨f0,f1,f2,f3,f4,f5⟩:=hf it (by simp)
  exact wpAny_pyNext_range_end (I.ok.hd hc) st (by have:n≤i:=hg; omega) fun h' eb=>⟨rfl,I.turned (t':=s.toks) (fun b o hb e=>eb b o hb e) f0 f1 f3 f4 f5⟩
 self:=fun _ _ _ _ _ st h=>wpAny_pyIter_rangeiter st h
section
variable {X:Cx}{tg:Expr}
def C3 (K:PySem.W.Frag)(tl:TE):TI:=fun σ H R=>tl σ H fun x H1=>∃ a,x = .ref a∧(∃ xs,br K H1 a xs)∧R (Ct K a) H1
def EG (K:PySem.W.Frag)(tl:TE):TI:=fun σ H R=>tl σ H fun x H1=>∃ a,x = .ref a∧(∃ xs,bf K H1 a xs)∧R (EI K a) H1
theorem gF {l:Expr}{tl:TE}(hl:PE X l tl):PI X tg l (C3 X.K tl):=by
 intro pins s σ H R I h
 refine bH (hl pins s σ H _ I h) fun v s1 ⟨x,H1,I1,r1,q1⟩=>?_
 obtain ⟨a,e,⟨xs,hq⟩,q⟩:=q1
 subst e
 cases r1
 obtain ⟨its,rv,p,hz⟩:=I1.list hq
 refine wpAny_pyIter_list p.isList ?_
 refine ⟨s1.heap.objs.size,[s1.heap.objs.size],_,_,H1,rfl,I1.kept (t':=s1.toks) fun b o e=>Heap.get?_push_of_some _ e,uL a _,⟨_,Heap.get?_push_size _ rfl,rfl,rfl⟩,fun b hb=>?_,q⟩
 have e:b=s1.heap.objs.size:=by simpa using hb
 subst e
 exact I1.fpOk (Nat.le_refl _) (I1.hok.fresh (Nat.le_refl _))
theorem qY {l:Expr}{tl:TE}(hl:PE X l tl):PI X tg l (EG X.K tl):=by
 intro pins s σ H R I h
 refine bH (hl pins s σ H _ I h) fun v s1 ⟨x,H1,I1,r1,q1⟩=>?_
 obtain ⟨a,e,⟨xs,hq⟩,q⟩:=q1
 subst e
 cases r1
 obtain ⟨its,rv,p,hz⟩:=I1.tuple hq
 refine wpAny_pyIter_tuple (show s1.heap.IsTuple a its.toArray from p) ?_
 refine ⟨s1.heap.objs.size,[s1.heap.objs.size],_,_,H1,rfl,I1.kept (t':=s1.toks) fun b o e=>Heap.get?_push_of_some _ e,qO a _,⟨_,Heap.get?_push_size _ rfl,rfl,rfl⟩,fun b hb=>?_,q⟩
 have e:b=s1.heap.objs.size:=by simpa using hb
 subst e
 exact I1.fpOk (Nat.le_refl _) (I1.hok.fresh (Nat.le_refl _))
theorem yt {pins:List (Addr × Obj)}{σ:St}{H:Hp}{s:Shared}{R:It->Hp->Prop}{E:Value->Shared->Prop}{lo hi:Int}{t u v:Tok}{tk:Nat}(I:Inv X pins σ H s)(h1:-(2 ^ 62)≤lo)(h2:lo < 2 ^ 62)(h3:-(2 ^ 62)≤hi)(h4:hi < 2 ^ 62)
 (q:R (A7 lo (hi - lo).toNat) H):wpAny (model X.prog X.w) X.A (pyIter (.ref s.heap.objs.size)) (EL X pins σ tg R) E { s with heap:=s.heap.push { cls:=.type "range",data:=.fields #[.int lo t,.int hi u,.int 1 v] },toks:=tk }:=by
 refine wpAny_pyIter_range (IsRange.new ..) (small_one h1 h2 h3 h4) ?_
 have I1:Inv X pins σ H { s with heap:=s.heap.push { cls:=.type "range",data:=.fields #[.int lo t,.int hi u,.int 1 v] },toks:=tk }:=I.kept fun b o e=>Heap.get?_push_of_some _ e
 refine ⟨(s.heap.push { cls:=.type "range",data:=.fields #[.int lo t,.int hi u,.int 1 v] }).objs.size,[(s.heap.push { cls:=.type "range",data:=.fields #[.int lo t,.int hi u,.int 1 v] }).objs.size],_,_,H,rfl,
  I1.kept (t':=tk) fun b o e=>Heap.get?_push_of_some _ e,qW _ lo (hi - lo).toNat,?_,fun b hb=>?_,q⟩
 ·have e1:lo + ((0:Nat):Int) * 1=lo:=by simp
  have e2:(((hi - lo).toNat:Nat):Int) - ((0:Nat):Int)=Builtin.Range.rangeSize lo hi 1:=by rw [rangeSize_one]; split <;> omega
  show IsRangeIter _ _ (lo + ((0:Nat):Int) * 1) ((((hi - lo).toNat:Nat):Int) - ((0:Nat):Int)) 1
  rw [e1,e2]
  exact Heap.get?_push_size _ rfl
 ·have e:b=(s.heap.push { cls:=.type "range",data:=.fields #[.int lo t,.int hi u,.int 1 v] }).objs.size:=by simpa using hb
  subst e
  exact I1.fpOk (Nat.le_refl _) (I1.hok.fresh (Nat.le_refl _))
def CH (ta:TA):TI:=fun σ H R=>ta σ H fun vs H1=>∃ j:Int,vs=[.int j]∧-(2 ^ 62)≤j∧j < 2 ^ 62∧R (A7 0 j.toNat) H1
theorem d9 {a:Expr}{ta:TA}{p pos:Pos}(hg:Gl X "range")(hm:X.mg "range"=none)(ha:PA X [a] ta)(hs:starEach [a] X.env=[(false,eval a X.env)]:=by rfl):PI X tg (.Call (.Name "range" p) [a] [] pos) (CH ta):=by
 intro pins s σ H R I h
 refine Call_ (dm I hg hm boot_range (PyProof.Rows.callWith_type1 (bH (ha pos pins s σ H _ I h) fun us s1 ⟨vs,H1,I1,r1,q1⟩=>?_) hs rfl))
 obtain ⟨j,e,q1,q2,q⟩:=q1
 subst e
 cases r1 with
 | cons r rr =>
   cases rr
   obtain ⟨t,rfl⟩:=r
   exact call_range_1 (yt I1 (by omega) (by omega) q1 q2 (by simpa using q))
def EC (wi:TI)(g:TG)(tb:TS):TS:=fun D σ H=>wi σ H fun J H1=>∃ W:Nat->Nat->St->Hp->Prop,(∃ m,W 0 m σ H1)∧∀ i m σ H,W i m σ H →
 (J.stop i H∧D.nx σ H)∨(J.go i H∧∃ N:St->Hp->Prop,(∀ σ' H',N σ' H'->∃ m',m' < m∧W (i + 1) m' σ' H')∧∀ x H',J.yld i H x H'->g x σ H' fun σ2 H2=>tb { D with nx:=N,ct:=N,bk:=D.nx } σ2 H2)
def jB (fp:List Addr)(h:Heap):List (Addr × Obj):=fp.filterMap fun b=>(h.get? b).map fun o=>(b,o)
theorem eC {fp:List Addr}{h:Heap}{b:Addr}{o:Obj}(hb:b∈fp)(e:h.get? b=some o):(b,o)∈jB fp h:=List.mem_filterMap.mpr ⟨b,hb,by rw [e]; rfl⟩
theorem vo {fp:List Addr}{h:Heap}{p:Addr × Obj}(hp:p∈jB fp h):p.1∈fp∧h.get? p.1=some p.2:=by
 obtain ⟨b,hb,e⟩:=List.mem_filterMap.mp hp
 cases q:h.get? b with
 | none=>rw [q] at e; cases e
 | some o =>
   rw [q] at e
   have e':(b,o)=p:=Option.some.inj e
   subst e'
   exact ⟨hb,q⟩
theorem Inv.pinned {pins:List (Addr × Obj)}{σ:St}{H:Hp}{s:Shared}{fp:List Addr}(I:Inv X pins σ H s)(hf:∀ b∈fp,cQ X pins H b)(ho:∀ b∈fp,∃ o,s.heap.get? b=some o∧∀ v,o.data ≠ .cell v):Inv X (pins++jB fp s.heap) σ H s :=
 I.pins_of fun p hp=>(List.mem_append.mp hp).elim (fun z=>I.pin p (List.mem_append_right _ z)) fun z=>by
   obtain ⟨hb,e⟩:=vo z
   obtain ⟨f0,f1,f2,_⟩:=hf p.1 hb
   obtain ⟨o,e',d⟩:=ho p.1 hb
   rw [e] at e'; cases e'
   exact ⟨e,f0,f1,f2,d⟩
theorem Inv.unpinned {pins pl:List (Addr × Obj)}{σ:St}{H:Hp}{s:Shared}(I:Inv X (pins++pl) σ H s):Inv X pins σ H s:=I.pins_of fun p hp=>I.pin p (List.mem_append_right _ (List.mem_append_left _ hp))
theorem gD {iter:Expr}{body:List Stmt}{wi:TI}{g:TG}{tb:TS}{pos:Pos}(hp:PassesOwn (model X.prog X.w) X.A X.env X.xe)(hc:X.calm=true)(hi:PI X tg iter wi)(hg:PG X tg g)(hb:gB X body tb)
 (hs:∀ x,foldedSetIterable iter X.env x=pure x:=by intro _; rfl):PS X (.For tg iter body [] pos) (EC wi g tb):=by
 intro pins s σ H D I h
 refine wpAny_For (bH (hi pins s σ H _ I h) fun v s1 h1=>bH h1 fun itv s2 h2=>?_) hs
 obtain ⟨it,fp,tn,J,H2,e,I2,T,st2,f2,W,⟨m0,w0⟩,turn⟩:=h2
 subst e
 have stat:∀ {H':Hp},(∀ b∈fp,H' b=none)->∀ b∈fp,cQ X pins H' b:=fun hn b hb=>⟨hn b hb,(f2 b hb).2⟩
 refine codeAny_forLoop_any (fun n s'=>∃ i σ' H',Inv X pins σ' H' s'∧tn i s'.heap∧(∀ b∈fp,H' b=none)∧W i n σ' H') ?_ m0 ⟨0,σ,H2,I2,st2,fun b hb=>(f2 b hb).1,w0⟩
 rintro n s3 ⟨i,σ3,H3,I3,st3,fr3,w3⟩
 rcases turn i n σ3 H3 w3 with ⟨stop,qn⟩ | ⟨go,N,hN,step⟩
 ·refine wpAny_passesOwn hp (bH (T.done X rfl rfl rfl hc i pins s3 σ3 H3 X.xe I3 (stat fr3) st3 stop) fun r s4 ⟨hr,I4⟩=>?_)
  subst hr
  exact wpAny_execs_nil ⟨σ3,H3,I4,qn⟩
 ·refine wpAny_passesOwn hp (bH (T.item X rfl rfl rfl hc i pins s3 σ3 H3 X.xe I3 (stat fr3) st3 go) fun r s4 ⟨u,hr,h4⟩=>?_)
  subst hr
  refine wpAny_passesOwn hp (bH h4 fun _ s5 ⟨x,H5,I5,r5,y5,st5,fr5⟩=>?_)
  have I5':=I5.pinned (stat fr5) (T.obj _ _ st5)
  refine wpAny_passesOwn hp (bH (hg _ s5 σ3 H5 x u _ I5' r5 (step x H5 y5)) fun _ s6 ⟨σ6,H6,I6,q6⟩=>?_)
  refine wpAny_passesOwn hp (bH (hb _ s6 σ6 H6 _ I6 q6) fun f s7 q7=>?_)
  have again:∀ {σ7:St}{H7:Hp},Inv X (pins++jB fp s5.heap) σ7 H7 s7->N σ7 H7->∃ m,m < n∧∃ i σ' H',Inv X pins σ' H' s7∧tn i s7.heap∧(∀ b∈fp,H' b=none)∧W i m σ' H':=fun {σ7 H7} I7 n7=>by
   obtain ⟨m',hm,w7⟩:=hN σ7 H7 n7
   refine ⟨m',hm,i + 1,σ7,H7,I7.unpinned,T.keep _ _ _ st5 fun b hb o e=>(I7.pin (b,o) (List.mem_append_right _ (List.mem_append_right _ (eC hb e)))).1,fun b hb=>?_,w7⟩
   obtain ⟨o,e,d⟩:=T.obj _ _ st5 b hb
   exact (I7.pin (b,o) (List.mem_append_right _ (List.mem_append_right _ (eC hb e)))).2.1
  cases f with
  | next=>obtain ⟨σ7,H7,I7,n7⟩:=q7; exact again I7 n7
  | cont=>obtain ⟨σ7,H7,I7,n7⟩:=q7; exact again I7 n7
  | brk=>obtain ⟨σ7,H7,I7,q7⟩:=q7; exact ⟨σ7,H7,I7.unpinned,q7⟩
  | ret v=>obtain ⟨x7,σ7,H7,I7,r7,q7⟩:=q7; exact ⟨x7,σ7,H7,I7.unpinned,r7,q7⟩
end
theorem wb {K:PySem.W.Frag}{a:Addr}{xs:List V}{g:TG}{tb:TS}{D:Ends}{σ:St}{H:Hp}(Pv:Nat->St->Hp->Prop)(h0:Pv 0 σ H)(hl:∀ i σ H,i≤xs.length->Pv i σ H->br K H a xs)
 (hs:∀ i x σ H,xs[i]?=some x->Pv i σ H->g x σ H fun σ2 H2=>tb { D with nx:=Pv (i + 1),ct:=Pv (i + 1),bk:=D.nx } σ2 H2)(hd:∀ σ H,Pv xs.length σ H->D.nx σ H):
 ∃ W:Nat->Nat->St->Hp->Prop,(∃ m,W 0 m σ H)∧∀ i m σ H,W i m σ H →
   ((Ct K a).stop i H∧D.nx σ H)∨((Ct K a).go i H∧∃ N:St->Hp->Prop,(∀ σ' H',N σ' H'->∃ m',m' < m∧W (i + 1) m' σ' H')∧∀ x H',(Ct K a).yld i H x H'->g x σ H' fun σ2 H2=>tb { D with nx:=N,ct:=N,bk:=D.nx } σ2 H2):=by
 refine ⟨fun i m σ H=>m=xs.length - i∧i≤xs.length∧Pv i σ H,⟨xs.length,by simp,Nat.zero_le _,h0⟩,?_⟩
 rintro i m σ H ⟨rfl,hi,p⟩
 have q:=hl i σ H hi p
 by_cases hlt:i < xs.length
 ·refine .inr ⟨⟨xs,xs[i],q,by simp [hlt]⟩,Pv (i + 1),fun σ' H' p'=>⟨xs.length - (i + 1),by omega,rfl,hlt,p'⟩,fun x H' y=>?_⟩
  obtain ⟨e,y⟩:=y
  subst e
  exact hs i x σ _ (y xs q) p
 ·have e:i=xs.length:=by omega
  subst e
  exact .inl ⟨⟨xs,q,Nat.le_refl _⟩,hd σ H p⟩
theorem mw {lo:Int}{n:Nat}{g:TG}{tb:TS}{D:Ends}{σ:St}{H:Hp}(Pv:Nat->St->Hp->Prop)(h0:Pv 0 σ H)
 (hs:∀ i σ H,i < n->Pv i σ H->g (.int (lo + i)) σ H fun σ2 H2=>tb { D with nx:=Pv (i + 1),ct:=Pv (i + 1),bk:=D.nx } σ2 H2)(hd:∀ σ H,Pv n σ H->D.nx σ H):
 ∃ W:Nat->Nat->St->Hp->Prop,(∃ m,W 0 m σ H)∧∀ i m σ H,W i m σ H →
   ((A7 lo n).stop i H∧D.nx σ H)∨((A7 lo n).go i H∧∃ N:St->Hp->Prop,(∀ σ' H',N σ' H'->∃ m',m' < m∧W (i + 1) m' σ' H')∧∀ x H',(A7 lo n).yld i H x H'->g x σ H' fun σ2 H2=>tb { D with nx:=N,ct:=N,bk:=D.nx } σ2 H2):=by
 refine ⟨fun i m σ H=>m=n - i∧i≤n∧Pv i σ H,⟨n,by simp,Nat.zero_le _,h0⟩,?_⟩
 rintro i m σ H ⟨rfl,hi,p⟩
 by_cases hlt:i < n
 ·refine .inr ⟨hlt,Pv (i + 1),fun σ' H' p'=>⟨n - (i + 1),by omega,rfl,hlt,p'⟩,fun x H' y=>?_⟩
  obtain ⟨e,y⟩:=y
  subst e y
  exact hs i σ _ hlt p
 ·have e:i=n:=by omega
  subst e
  exact .inl ⟨Nat.le_refl _,hd σ H p⟩
abbrev R2:=V->V->Hp->VK->Prop
def eM (X:Cx)(f:Value->Value->Sem Value)(r:R2):Prop :=
 ∀ (pins:List (Addr × Obj))(s:Shared)(σ:St)(H:Hp)(x y:V)(v u:Value)(Q:VK),Inv X pins σ H s->aE x v->aE y u->r x y H Q →
   wpAny (model X.prog X.w) X.A (f v u) (EP X pins σ Q) X.xe s
def Ed (X:Cx)(f:Value->Sem Value)(r:V->Hp->VK->Prop):Prop :=
 ∀ (pins:List (Addr × Obj))(s:Shared)(σ:St)(H:Hp)(x:V)(v:Value)(Q:VK),Inv X pins σ H s->aE x v->r x H Q →
   wpAny (model X.prog X.w) X.A (f v) (EP X pins σ Q) X.xe s
def bU (X:Cx)(f:Value)(r:List V->Hp->VK->Prop):Prop :=
 ∀ (pins:List (Addr × Obj))(s:Shared)(σ:St)(H:Hp)(xs:List V)(us:List Value)(Q:VK),Inv X pins σ H s->aG xs us->r xs H Q →
   wpAny (model X.prog X.w) X.A (call f us) (EP X pins σ Q) X.xe s
def Et (X:Cx)(r:V->Hp->(Bool->Hp->Prop)->Prop):Prop :=
 ∀ (pins:List (Addr × Obj))(s:Shared)(σ:St)(H:Hp)(x:V)(v:Value)(Q:Bool->Hp->Prop),Inv X pins σ H s->aE x v->r x H Q →
   wpAny (model X.prog X.w) X.A (truthy v) (TP X pins σ Q) X.xe s
def mJ (r:R2)(ta tb:TE):TE:=fun σ H Q=>ta σ H fun x H1=>tb σ H1 fun y H2=>r x y H2 Q
def Fd (r:V->Hp->VK->Prop)(ta:TE):TE:=fun σ H Q=>ta σ H fun x H1=>r x H1 Q
def rI (C:Int->Int->Prop)(g:Int->Int->V):R2:=fun x y H Q=>∃ i j,x = .int i∧y = .int j∧C i j∧Q (g i j) H
def vP (g:Int->Int->V):R2:=fun x y H Q=>∃ i j,x = .int i∧y = .int j∧Q (g i j) H
def rU (g:Int->V):V->Hp->VK->Prop:=fun x H Q=>∃ i,x = .int i∧Q (g i) H
section
variable {X:Cx}{a b c:Expr}{ta tb tc:TE}{pos:Pos}
theorem Bg (ha:PE X a ta)(hb:PE X b tb){pins:List (Addr × Obj)}{s:Shared}{σ:St}{H:Hp}{R:V->V->Hp->Prop}(I:Inv X pins σ H s)
 (h:ta σ H fun x H1=>tb σ H1 fun y H2=>R x y H2){Q:Value->Shared->Prop}{f:Value->Value->Sem Value}
 (hf:∀ v u s2 x y H2,Inv X pins σ H2 s2->aE x v->aE y u->R x y H2->wpAny (model X.prog X.w) X.A (f v u) Q X.xe s2):
 wpAny (model X.prog X.w) X.A (eval a X.env) (fun v s₁=>wpAny (model X.prog X.w) X.A (eval b X.env) (fun u s₂=>wpAny (model X.prog X.w) X.A (f v u) Q X.xe s₂) X.xe s₁) X.xe s:=by
 refine bH (ha pins s σ H _ I h) fun v s1 ⟨x,H1,I1,r1,q1⟩=>?_
 refine bH (hb pins s1 σ H1 _ I1 q1) fun u s2 ⟨y,H2,I2,r2,q2⟩=>?_
 exact hf v u s2 x y H2 I2 r1 r2 q2
theorem aL {op:Operator}{r:R2}(ho:eM X (binaryOp op) r)(ha:PE X a ta)(hb:PE X b tb):PE X (.BinOp a op b pos) (mJ r ta tb):=by
 intro pins s σ H Q I h
 exact wpAny_BinOp (Bg ha hb I h fun v u s2 x y H2 I2 rx ry q=>ho pins s2 σ H2 x y v u Q I2 rx ry q)
theorem tK {op:UnaryOp}{r:V->Hp->VK->Prop}(ho:Ed X (unaryOp op) r)(ha:PE X a ta):PE X (.UnaryOp op a pos) (Fd r ta):=by
 intro pins s σ H Q I h
 exact UnaryOp_ (bH (ha pins s σ H _ I h) fun v s1 ⟨x,H1,I1,r1,q1⟩=>ho pins s1 σ H1 x v Q I1 r1 q1)
theorem Bt {f:Value->Value->Sem Value}{C:Int->Int->Prop}{g:Int->Int->Int}
 (rule:∀ (i j:Int)(t u:Tok)(s:Shared)(Q:Value->Shared->Prop)(E:Value->Shared->Prop),C i j->Q (.int (g i j) s.toks) { s with toks:=s.toks + 1 }->wpAny (model X.prog X.w) X.A (f (.int i t) (.int j u)) Q E s):
 eM X f (rI C fun i j=>.int (g i j)):=by
 intro pins s σ H x y v u Q I rx ry h
 obtain ⟨i,j,rfl,rfl,hc,q⟩:=h
 obtain ⟨t,rfl⟩:=rx
 obtain ⟨t',rfl⟩:=ry
 exact rule i j t t' s _ _ hc ⟨.int (g i j),H,I.tok _,⟨_,rfl⟩,q⟩
theorem DE {f:Value->Value->Sem Value}{g:Int->Int->Int}
 (rule:∀ (i j:Int)(t u:Tok)(s:Shared)(Q:Value->Shared->Prop)(E:Value->Shared->Prop),Q (.int (g i j) s.toks) { s with toks:=s.toks + 1 }->wpAny (model X.prog X.w) X.A (f (.int i t) (.int j u)) Q E s):
 eM X f (vP fun i j=>.int (g i j)):=by
 intro pins s σ H x y v u Q I rx ry h
 obtain ⟨i,j,rfl,rfl,q⟩:=h
 obtain ⟨t,rfl⟩:=rx
 obtain ⟨t',rfl⟩:=ry
 exact rule i j t t' s _ _ ⟨.int (g i j),H,I.tok _,⟨_,rfl⟩,q⟩
theorem yL {f:Value->Value->Sem Value}{g:Int->Int->Bool}
 (rule:∀ (i j:Int)(t u:Tok)(s:Shared)(Q:Value->Shared->Prop)(E:Value->Shared->Prop),Q (.bool (g i j)) s->wpAny (model X.prog X.w) X.A (f (.int i t) (.int j u)) Q E s):
 eM X f (vP fun i j=>.bl (g i j)):=by
 intro pins s σ H x y v u Q I rx ry h
 obtain ⟨i,j,rfl,rfl,q⟩:=h
 obtain ⟨t,rfl⟩:=rx
 obtain ⟨t',rfl⟩:=ry
 exact rule i j t t' s _ _ ⟨.bl (g i j),H,I,rfl,q⟩
def DX (i j:Int):Prop:=0 < j∧j < 1073741824
def EF (i j:Int):Prop:=0≤j∧j≤1000000∧i.natAbs < 2 ^ 64
def ub (i j:Int):Prop:=(-(2 ^ 64) < i∧i < 2 ^ 64)∨(-(2 ^ 64) < j∧j < 2 ^ 64)
theorem ub.ok {i j:Int}(h:ub i j):IntMulOk i j:=by
 rcases h with ⟨h1,h2⟩ | ⟨h1,h2⟩
 ·exact .of_left (intBits_le_64 h1 h2)
 ·exact .of_right (intBits_le_64 h1 h2)
theorem eJ:eM X (binaryOp .Add) (vP fun i j=>.int (i + j)):=DE fun _ _ _ _ _ _ _ q=>add_int q
theorem rB:eM X (binaryOp .Sub) (vP fun i j=>.int (i - j)):=DE fun _ _ _ _ _ _ _ q=>sub_int q
theorem dQ:eM X (binaryOp .Mult) (rI ub fun i j=>.int (i * j)):=Bt fun _ _ _ _ _ _ _ hc q=>mul_int q hc.ok
theorem zF:eM X (binaryOp .FloorDiv) (rI DX fun i j=>.int (i / j)):=Bt fun i j _ _ _ _ _ hc q=>by
 have h1:(0:Int) < j:=hc.1
 have h2:j < 1073741824:=hc.2
 exact floordiv_int (by omega) (by rw [Int.fdiv_eq_ediv_of_nonneg i (by omega)]; exact q) (.inl (PyProof.noPylong_small (by omega)))
theorem dk:eM X (binaryOp .Mod) (rI (fun _ j=>0 < j) fun i j=>.int (i % j)):=Bt fun i j _ _ _ _ _ hc q=>by
 have h1:(0:Int) < j:=hc
 exact mod_int' (by omega) (by rw [Int.fmod_eq_emod_of_nonneg i (by omega)]; exact q)
theorem tO:eM X (binaryOp .Mod) (rI (fun _ j=>j≠0) fun i j=>.int (i.fmod j)):=Bt fun _ _ _ _ _ _ _ hc q=>mod_int' hc q
theorem iF:eM X (binaryOp .Pow) (rI EF fun i j=>.int (i ^ j.toNat)):=Bt fun _ _ _ _ _ _ _ hc q=>pow_int_small hc.1 hc.2.1 hc.2.2 q
theorem Fc {f:Value->Sem Value}{g:Int->Int}
 (rule:∀ (i:Int)(t:Tok)(s:Shared)(Q:Value->Shared->Prop)(E:Value->Shared->Prop),Q (.int (g i) s.toks) { s with toks:=s.toks + 1 }->wpAny (model X.prog X.w) X.A (f (.int i t)) Q E s):
 Ed X f (rU fun i=>.int (g i)):=by
 intro pins s σ H x v Q I rx h
 obtain ⟨i,rfl,q⟩:=h
 obtain ⟨t,rfl⟩:=rx
 exact rule i t s _ _ ⟨.int (g i),H,I.tok _,⟨_,rfl⟩,q⟩
theorem nt:Ed X (unaryOp .USub) (rU fun i=>.int (-i)):=Fc fun _ _ _ _ _ q=>neg_int q
end
def CO:V->V->Bool
 | .non,.non=>true | .non,.int _=>true | .int _,.non=>true | .non,.bl _=>true | .bl _,.non=>true | .non,.str _=>true | .str _,.non=>true
 | .int _,.int _=>true | .bl _,.bl _=>true | .str _,.str _=>true | .byt _,.byt _=>true
 | .int _,.str _=>true | .str _,.int _=>true | .bl _,.str _=>true | .str _,.bl _=>true
 | _,_=>false
def rEq:R2:=fun x y H Q=>CO x y=true∧Q (.bl (decide (x=y))) H
def rNe:R2:=fun x y H Q=>CO x y=true∧Q (.bl (!decide (x=y))) H
theorem rZ {i j:Int}:decide (V.int i=V.int j)=(i == j):=by
 rw [Bool.eq_iff_iff]
 simp
theorem wK {i j:Bool}:decide (V.bl i=V.bl j)=(i == j):=by
 rw [Bool.eq_iff_iff]
 simp
theorem rP {i j:Str}:decide (V.str i=V.str j)=(i == j):=by
 rw [Bool.eq_iff_iff]
 simp
theorem sr {i j:Array UInt8}:decide (V.byt i=V.byt j)=(i.toList == j.toList):=by
 rw [Bool.eq_iff_iff]
 cases i
 cases j
 simp
section
variable {X:Cx}{a b c:Expr}{ta tb tc:TE}{pos:Pos}
theorem bp {pins:List (Addr × Obj)}{σ:St}{H:Hp}{s:Shared}{Q:VK}{k k':Bool}(I:Inv X pins σ H s)(q:Q (.bl k) H)(e:k=k'):EP X pins σ Q (.bool k') s:=by
 subst e
 exact ⟨.bl k,H,I,rfl,q⟩
theorem dZ:eM X (compareOp .Eq) rEq:=by
 intro pins s σ H x y v u Q I rx ry h
 obtain ⟨hs,q⟩:=h
 cases x with
 | non =>
   cases rx
   cases y with
   | non=>cases ry; exact PySem.EqNone.eq_none_none (bp I q (by simp))
   | bl j=>cases ry; exact PySem.EqNone.eq_none_bool (bp I q (by simp))
   | int j=>obtain ⟨t',rfl⟩:=ry; exact PySem.EqNone.eq_none_int (bp I q (by simp))
   | str j=>obtain ⟨t',rfl⟩:=ry; exact PySem.EqNone.eq_none_str (bp I q (by simp))
   | _=>exact absurd (show false=true from hs) Bool.false_ne_true
 | bl i =>
   cases rx
   cases y with
   | non=>cases ry; exact PySem.EqNone.eq_bool_none (bp I q (by simp))
   | bl j=>cases ry; exact eq_bool (bp I q wK)
   | str j=>obtain ⟨t',rfl⟩:=ry; exact PySem.EqMixed.eq_bool_str (bp I q (by simp))
   | _=>exact absurd (show false=true from hs) Bool.false_ne_true
 | int i =>
   obtain ⟨t,rfl⟩:=rx
   cases y with
   | non=>cases ry; exact PySem.EqNone.eq_int_none (bp I q (by simp))
   | int j=>obtain ⟨t',rfl⟩:=ry; exact eq_int (bp I q rZ)
   | str j=>obtain ⟨t',rfl⟩:=ry; exact PySem.EqMixed.eq_int_str (bp I q (by simp))
   | _=>exact absurd (show false=true from hs) Bool.false_ne_true
 | str i =>
   obtain ⟨t,rfl⟩:=rx
   cases y with
   | non=>cases ry; exact PySem.EqNone.eq_str_none (bp I q (by simp))
   | bl j=>cases ry; exact PySem.EqMixed.eq_str_bool (bp I q (by simp))
   | int j=>obtain ⟨t',rfl⟩:=ry; exact PySem.EqMixed.eq_str_int (bp I q (by simp))
   | str j=>obtain ⟨t',rfl⟩:=ry; exact eq_str (bp I q rP)
   | _=>exact absurd (show false=true from hs) Bool.false_ne_true
 | byt i =>
   obtain ⟨t,rfl⟩:=rx
   cases y with
   | byt j=>obtain ⟨t',rfl⟩:=ry; exact PySem.W.eq_bytes (bp I q sr)
   | _=>exact absurd (show false=true from hs) Bool.false_ne_true
 | _=>cases y <;> exact absurd (show false=true from hs) Bool.false_ne_true
theorem dI:eM X (compareOp .NotEq) rNe:=by
 intro pins s σ H x y v u Q I rx ry h
 obtain ⟨hs,q⟩:=h
 cases x with
 | non =>
   cases rx
   cases y with
   | non=>cases ry; exact PySem.EqNone.ne_none_none (bp I q (by simp))
   | bl j=>cases ry; exact PySem.EqNone.ne_none_bool (bp I q (by simp))
   | int j=>obtain ⟨t',rfl⟩:=ry; exact PySem.EqNone.ne_none_int (bp I q (by simp))
   | str j=>obtain ⟨t',rfl⟩:=ry; exact PySem.EqNone.ne_none_str (bp I q (by simp))
   | _=>exact absurd (show false=true from hs) Bool.false_ne_true
 | bl i =>
   cases rx
   cases y with
   | non=>cases ry; exact PySem.EqNone.ne_bool_none (bp I q (by simp))
   | bl j=>cases ry; exact ne_bool (bp I q (congrArg not wK))
   | str j=>obtain ⟨t',rfl⟩:=ry; exact PySem.EqMixed.ne_bool_str (bp I q (by simp))
   | _=>exact absurd (show false=true from hs) Bool.false_ne_true
 | int i =>
   obtain ⟨t,rfl⟩:=rx
   cases y with
   | non=>cases ry; exact PySem.EqNone.ne_int_none (bp I q (by simp))
   | int j=>obtain ⟨t',rfl⟩:=ry; exact ne_int (bp I q (congrArg not rZ))
   | str j=>obtain ⟨t',rfl⟩:=ry; exact PySem.EqMixed.ne_int_str (bp I q (by simp))
   | _=>exact absurd (show false=true from hs) Bool.false_ne_true
 | str i =>
   obtain ⟨t,rfl⟩:=rx
   cases y with
   | non=>cases ry; exact PySem.EqNone.ne_str_none (bp I q (by simp))
   | bl j=>cases ry; exact PySem.EqMixed.ne_str_bool (bp I q (by simp))
   | int j=>obtain ⟨t',rfl⟩:=ry; exact PySem.EqMixed.ne_str_int (bp I q (by simp))
   | str j=>obtain ⟨t',rfl⟩:=ry; exact ne_str (bp I q (congrArg not rP))
   | _=>exact absurd (show false=true from hs) Bool.false_ne_true
 | byt i =>
   obtain ⟨t,rfl⟩:=rx
   cases y with
   | byt j=>obtain ⟨t',rfl⟩:=ry; exact PySem.W.ne_bytes (bp I q (congrArg not sr))
   | _=>exact absurd (show false=true from hs) Bool.false_ne_true
 | _=>cases y <;> exact absurd (show false=true from hs) Bool.false_ne_true
theorem iQ:eM X (compareOp .Lt) (vP fun i j=>.bl (decide (i < j))):=yL fun _ _ _ _ _ _ _ q=>lt_int q
theorem tV:eM X (compareOp .LtE) (vP fun i j=>.bl (decide (i≤j))):=yL fun _ _ _ _ _ _ _ q=>le_int q
theorem lX:eM X (compareOp .Gt) (vP fun i j=>.bl (decide (j < i))):=yL fun _ _ _ _ _ _ _ q=>gt_int q
theorem A4:eM X (compareOp .GtE) (vP fun i j=>.bl (decide (j≤i))):=yL fun _ _ _ _ _ _ _ q=>ge_int q
theorem By:eM X (compareOp .Is) (fun x y H Q=>y = .non∧Q (.bl (decide (x = .non))) H):=by
 intro pins s σ H x y v u Q I rx ry h
 obtain ⟨rfl,q⟩:=h
 cases ry
 refine is_none_gen (bp I q ?_)
 cases x <;> first
  | (cases rx; rfl)
  | (obtain ⟨t,rfl⟩:=rx; rfl)
theorem zV:eM X (compareOp .IsNot) (fun x y H Q=>y = .non∧Q (.bl (!decide (x = .non))) H):=by
 intro pins s σ H x y v u Q I rx ry h
 obtain ⟨rfl,q⟩:=h
 cases ry
 refine isnot_none_gen (bp I q ?_)
 cases x <;> first
  | (cases rx; rfl)
  | (obtain ⟨t,rfl⟩:=rx; rfl)
theorem aI (b:Expr){op:CmpOp}(h:op ≠ .In:=by decide)(h2:op ≠ .NotIn:=by decide):behindInMarks op b=false:=by
 have e1:(op == CmpOp.In)=false:=by cases op <;> first | rfl | exact absurd rfl h
 have e2:(op == CmpOp.NotIn)=false:=by cases op <;> first | rfl | exact absurd rfl h2
 cases b <;> simp [behindInMarks,e1,e2]
theorem cw {op:CmpOp}{r:R2}(ho:eM X (compareOp op) r)(ha:PE X a ta)(hb:PE X b tb)(hm:behindInMarks op b=false):PE X (.Compare a [op] [b] pos) (mJ r ta tb):=by
 intro pins s σ H Q I h
 exact wpAny_Compare1 (Bg ha hb I h fun v u s2 x y H2 I2 rx ry q=>ho pins s2 σ H2 x y v u Q I2 rx ry q) hm
def A5 (t:TE):TT:=fun σ H Q=>t σ H fun x H'=>∃ k,x = .bl k∧Q k H'
theorem aJ {op:CmpOp}{r:R2}(ho:eM X (compareOp op) r)(ha:PE X a ta)(hb:PE X b tb)(hm:behindInMarks op b=false):PT X (.Compare a [op] [b] pos) (A5 (mJ r ta tb)):=by
 intro pins s σ H Q I h
 refine wpAny_isTrue_Compare1 (bH (ha pins s σ H _ I h) fun v s1 ⟨x,H1,I1,r1,q1⟩=>bH (hb pins s1 σ H1 _ I1 q1) fun u s2 ⟨y,H2,I2,r2,q2⟩ =>
  bH (ho pins s2 σ H2 x y v u _ I2 r1 r2 q2) fun c s3 ⟨z,H3,I3,r3,k,e,q3⟩=>?_) hm
 subst e
 cases r3
 exact wpAny_truthy_bool ⟨H3,I3,q3⟩
def yg (r r':R2)(ta tb tc:TE):TE:=fun σ H Q=>ta σ H fun x H1=>tb σ H1 fun y H2=>r x y H2 fun z H3=>∃ k,z = .bl k ∧
 (if k=true then tc σ H3 fun w' H4=>r' y w' H4 Q else Q (.bl false) H3)
theorem jC {op op':CmpOp}{r r':R2}(ho:eM X (compareOp op) r)(ho':eM X (compareOp op') r')(ha:PE X a ta)(hb:PE X b tb)(hc:PE X c tc)
 (hm:lastMarks [op,op'] [b,c]=false:=by with_unfolding_all rfl):PE X (.Compare a [op,op'] [b,c] pos) (yg r r' ta tb tc):=by
 intro pins s σ H Q I h
 refine Compare_chain (bH (ha pins s σ H _ I h) fun v s1 ⟨x,H1,I1,r1,q1⟩=>chain_link (bH (hb pins s1 σ H1 _ I1 q1) fun u s2 ⟨y,H2,I2,r2,q2⟩ =>
  bH (ho pins s2 σ H2 x y v u _ I2 r1 r2 q2) fun d s3 ⟨z,H3,I3,r3,k,e,q3⟩=>?_)) hm
 subst e
 cases r3
 refine wpAny_truthy_bool ?_
 cases k with
 | false=>exact ite_ff ⟨.bl false,H3,I3,rfl,q3⟩
 | true=>exact ite_tt (chain_last (bH (hc pins s3 σ H3 _ I3 q3) fun w' s4 ⟨z',H4,I4,r4,q4⟩=>ho' pins s4 σ H4 y z' u w' Q I4 r2 r4 q4))
theorem wQ {op op':CmpOp}{r r':R2}(ho:eM X (compareOp op) r)(ho':eM X (compareOp op') r')(ha:PE X a ta)(hb:PE X b tb)(hc:PE X c tc)
 (hm:lastMarks [op,op'] [b,c]=false:=by with_unfolding_all rfl):PT X (.Compare a [op,op'] [b,c] pos) (A5 (yg r r' ta tb tc)):=by
 intro pins s σ H Q I h
 refine isTrue_chain (bH (ha pins s σ H _ I h) fun v s1 ⟨x,H1,I1,r1,q1⟩=>test_link (bH (hb pins s1 σ H1 _ I1 q1) fun u s2 ⟨y,H2,I2,r2,q2⟩ =>
  bH (ho pins s2 σ H2 x y v u _ I2 r1 r2 q2) fun d s3 ⟨z,H3,I3,r3,k,e,q3⟩=>?_)) hm
 subst e
 cases r3
 refine wpAny_truthy_bool ?_
 cases k with
 | false =>
   obtain ⟨k',e',q'⟩:=q3
   cases e'
   exact ite_ff ⟨H3,I3,q'⟩
 | true =>
   refine ite_tt (test_last (bH (hc pins s3 σ H3 _ I3 q3) fun w' s4 ⟨z',H4,I4,r4,q4⟩=>bH (ho' pins s4 σ H4 y z' u w' _ I4 r2 r4 q4) fun d' s5 ⟨z2,H5,I5,r5,k2,e2,q5⟩=>?_))
   subst e2
   cases r5
   exact wpAny_truthy_bool ⟨H5,I5,q5⟩
def CY (K:PySem.W.Frag)(x:V)(H:Hp)(k:Bool):Prop :=
 match x with
 | .non=>k=false
 | .bl b=>k=b
 | .int i=>k=(i != 0)
 | .str y=>y.length≤sizeLine∧k=((y.length:Int) != 0)
 | .byt y=>y.size≤sizeLine∧k=((y.size:Int) != 0)
 | .ref p=>(∃ xs,br K H p xs∧k = !xs.isEmpty)∨(∃ xs,bf K H p xs∧k = !xs.isEmpty)∨∃ kvs,H p=some (.dK kvs)∧k = !kvs.isEmpty
 | _=>False
theorem rj {κ:Type}{kvs:List (κ × V)}{vs:List (κ × Value)}(r:KV kvs vs):(!vs.isEmpty) = !kvs.isEmpty:=by
 cases r <;> rfl
theorem jz {xs:List V}{its:List Value}(r:aG xs its):(!its.toArray.isEmpty) = !xs.isEmpty:=by
 cases r <;> simp
theorem jE:(sizeLine:Nat) < 2 ^ 63:=by rw [sizeLine_eq]; decide
theorem BA:Et X (fun x H Q=>∃ k,CY X.K x H k∧Q k H):=by
 intro pins s σ H x v Q I rx h
 obtain ⟨k,e,q⟩:=h
 have hl:=jE
 have hs:sizeLine=16777216:=sizeLine_eq
 cases x with
 | non =>
   cases rx
   have e':k=false:=e
   subst e'
   exact truthy_none ⟨H,I,q⟩
 | bl b =>
   cases rx
   have e':k=b:=e
   subst e'
   exact wpAny_truthy_bool ⟨H,I,q⟩
 | int i =>
   obtain ⟨t,rfl⟩:=rx
   have e':k=(i != 0):=e
   subst e'
   exact PySem.P.truthy_int ⟨H,I,q⟩
 | str y =>
   obtain ⟨t,rfl⟩:=rx
   obtain ⟨hy,e'⟩:y.length≤sizeLine∧k=((y.length:Int) != 0):=e
   subst e'
   exact PySem.P.truthy_str (by omega) ⟨H,I.tok _,q⟩
 | byt y =>
   obtain ⟨t,rfl⟩:=rx
   obtain ⟨hy,e'⟩:y.size≤sizeLine∧k=((y.size:Int) != 0):=e
   subst e'
   exact PySem.W.truthy_bytes (by omega) ⟨H,I.tok _,q⟩
 | ref p =>
   cases rx
   have e':(∃ xs,br X.K H p xs∧k = !xs.isEmpty)∨(∃ xs,bf X.K H p xs∧k = !xs.isEmpty)∨∃ kvs,H p=some (.dK kvs)∧k = !kvs.isEmpty:=e
   rcases e' with ⟨xs,hx,e'⟩ | ⟨xs,hx,e'⟩ | ⟨kvs,hx,e'⟩
   ·subst e'
    obtain ⟨its,r,pl,hz⟩:=I.list hx
    have hlen:=r.length
    exact wpAny_truthy_list pl.isList (by simp only [List.size_toArray]; omega) ⟨H,I.tok _,by rw [jz r]; exact q⟩
   ·subst e'
    obtain ⟨its,r,pl,hz⟩:=I.tuple hx
    have hlen:=r.length
    exact truthy_tuple pl (by simp only [List.size_toArray]; omega) ⟨H,I.tok _,by rw [jz r]; exact q⟩
   ·subst e'
    obtain ⟨hz,hS,vs,r,m⟩:kvs.length≤sizeLine∧(p == sysModules)=false∧∃ vs,KV kvs vs∧s.heap.DictOf (bX X.prog X.w) p vs:=I.hok p _ hx
    have hlen:kvs.length=vs.length:=Paired.length r
    exact wpAny_truthy_dict hS m (by omega) ⟨H,I.tok _,by rw [rj r]; exact q⟩
 | _=>exact (show False from e).elim
theorem pN (ha:PE X a ta)(he:∀ cp,isTrue a X.env cp=(do let v ← cp; standAt a.pos; holding [v] (truthy v))):
 PT X a (fun σ H Q=>ta σ H fun x H'=>∃ k,CY X.K x H' k∧Q k H'):=by
 intro pins s σ H Q I h
 exact isTrue_plain (bH (ha pins s σ H _ I h) fun v s1 ⟨x,H1,I1,r1,q1⟩=>BA pins s1 σ H1 x v Q I1 r1 q1) (he _)
theorem dH {x:V}{us:List Value}(r:aG [x] us):∃ u,us=[u]∧aE x u:=by
 cases r with
 | cons r1 r2=>cases r2; exact ⟨_,rfl,r1⟩
theorem vS {x y:V}{us:List Value}(r:aG [x,y] us):∃ u w',us=[u,w']∧aE x u∧aE y w':=by
 cases r with
 | cons r1 r2 =>
   cases r2 with
   | cons r3 r4=>cases r4; exact ⟨_,_,rfl,r1,r3⟩
theorem hU:bU X (.builtin "abs") (fun xs H Q=>∃ i,xs=[.int i]∧Q (.int (if i < 0 then -i else i)) H):=by
 intro pins s σ H xs us Q I r h
 obtain ⟨i,rfl,q⟩:=h
 obtain ⟨u,rfl,t,rfl⟩:=dH r
 exact call_abs_int fun u tk=>⟨.int (if i < 0 then -i else i),H,I.tok _,⟨_,rfl⟩,q⟩
theorem vH (hc:X.calm=true):bU X (.builtin "max") (fun xs H Q=>∃ i j,xs=[.int i,.int j]∧Q (.int (if j > i then j else i)) H):=by
 intro pins s σ H xs us Q I r h
 obtain ⟨i,j,rfl,q⟩:=h
 obtain ⟨u,w',rfl,⟨t,rfl⟩,⟨t',rfl⟩⟩:=vS r
 refine max_two_ints (I.ok.hd hc) fun h' tk k=>⟨_,H,I.kept k,?_,q⟩
 by_cases hj:j > i
 ·rw [if_pos hj,if_pos hj]; exact ⟨_,rfl⟩
 ·rw [if_neg hj,if_neg hj]; exact ⟨_,rfl⟩
theorem uo (hc:X.calm=true):bU X (.builtin "min") (fun xs H Q=>∃ i j,xs=[.int i,.int j]∧Q (.int (if j < i then j else i)) H):=by
 intro pins s σ H xs us Q I r h
 obtain ⟨i,j,rfl,q⟩:=h
 obtain ⟨u,w',rfl,⟨t,rfl⟩,⟨t',rfl⟩⟩:=vS r
 refine min_two_ints (I.ok.hd hc) fun h' tk k=>⟨_,H,I.kept k,?_,q⟩
 by_cases hj:j < i
 ·rw [if_pos hj,if_pos hj]; exact ⟨_,rfl⟩
 ·rw [if_neg hj,if_neg hj]; exact ⟨_,rfl⟩
theorem uO:bU X (.type "int") (fun xs H Q=>(∃ i,xs=[.int i]∧Q (.int i) H)∨∃ k,xs=[.bl k]∧Q (.int (if k then 1 else 0)) H):=by
 intro pins s σ H xs us Q I r h
 rcases h with ⟨i,rfl,q⟩ | ⟨k,rfl,q⟩
 ·obtain ⟨u,rfl,t,rfl⟩:=dH r
  exact call_int_int ⟨.int i,H,I,⟨_,rfl⟩,q⟩
 ·obtain ⟨u,rfl,r1⟩:=dH r
  cases r1
  exact call_int_bool ⟨.int (if k then 1 else 0),H,I.tok _,⟨_,rfl⟩,q⟩
end
structure ObjM (h:Heap)(x dx C:Addr)(mA:Str->Option Value):Prop where
 obj:h.get? x=some (PySem.W.instObj C dx)
 ns:h.Ns1 dx mA
 ne:dx≠x
theorem mf {h:Heap}{dx:Addr}{mA:Str->Option Value}(n:h.Ns1 dx mA):∃ od,h.get? dx=some od∧∀ name,PySem.W.lookIn name od=some (mA name):=by
 obtain ⟨o,es,ep,ho,hd,hk,_,hm⟩:=n
 refine ⟨o,ho,fun name=>?_⟩
 have e:=hm name
 unfold nsFind findBy at e
 rw [← Array.find?_toList] at e
 unfold PySem.W.lookIn
 rw [hd]
 dsimp only
 split
 ·rename_i y q
  rw [q] at e
  exact congrArg some e
 ·rename_i q
  rw [q] at e
  have a:es.toList.any (·.refKey)=false:=by
   rw [List.any_eq_false]
   intro y hy
   obtain ⟨z,t,hkey⟩:=hk y (Array.mem_toList_iff.mp hy)
   simp [DictEntry.refKey,hkey]
  have a':¬ es.toList.any (·.refKey)=true:=by rw [a]; exact Bool.false_ne_true
  rw [if_neg a']
  exact congrArg some e
theorem ObjM.look {h:Heap}{x dx C:Addr}{mA:Str->Option Value}(I:ObjM h x dx C mA):∃ od,PySem.W.InstAt h x (PySem.W.instObj C dx) C (some od)∧∀ name,PySem.W.lookIn name od=some (mA name):=
 let ⟨od,ho,hl⟩:=mf I.ns
 ⟨od,⟨I.obj,rfl,rfl,ho⟩,hl⟩
section
variable {prog:Program}{w:World}{A:Around}{E:Value->Shared->Prop}{s:Shared}{K:PySem.W.Frag}{x dx C f:Addr}{mA:Str->Option Value}{name:Str}{v:Value}
theorem zj {expr:Bool}{Q:Value->Shared->Prop}(X:K.In s.heap)(I:ObjM s.heap x dx C mA)(hg:PySem.W.plainGet K C name=true)(hh:PySem.W.hasDictIn K C=true)
 (ha:PySem.W.findIn K (.ref C) name=some none)(hv:mA name=some v)(hv':PySem.W.handedIn v=true)(h:Q v { s with toks:=s.toks + 1 }):
 wpAny (model prog w) A (getAttr (.ref x) name expr) Q E s:=by
 obtain ⟨od,J,hl⟩:=I.look
 exact PySem.W.get_value X J (PySem.W.plainGet_of hg).1 (PySem.W.findObj_own hh ha rfl (by rw [hl,hv])) hv' h
theorem xb {pl:Sem Bool}{Q:Value × List Value->Shared->Prop}(X:K.In s.heap)(I:ObjM s.heap x dx C mA)(hg:PySem.W.plainGet K C name=true)
 (hf:PySem.W.findIn K (.ref C) name=some (some (.ref f)))(ht:PySem.W.isFn K (.ref f)=true)(hv:mA name=none)(h:Q (.ref f,[.ref x]) s):
 wpAny (model prog w) A (getMethod (.ref x) name pl) Q E s:=by
 obtain ⟨od,J,hl⟩:=I.look
 exact PySem.W.method_fn X J (PySem.W.plainGet_of hg).1 (PySem.W.plainGet_of hg).2 hf (beq_iff_eq.mp ht) (by show (PySem.W.lookIn name od).map (·.isSome)=some false; rw [hl,hv]; rfl) h
theorem zL {ns:List Str}{Q:Unit->Shared->Prop}(X:K.In s.heap)(I:ObjM s.heap x dx C mA)
 (hs:PySem.W.findIn K (.ref C) "__setattr__"=some (some (.builtin "object.__setattr__")))(hp:PySem.W.plainOver K C=true)(ht:PySem.W.takerIn K C name=some none)(hh:PySem.W.hasDictIn K C=true)
 (hw:PySem.Within mA ns)(hsz:ns.length≤sizeLine)
 (h:∀ h',ObjM h' x dx C (fun y=>if y=name then some v else mA y)->Heap.SameBut dx s.heap h'->Q () { s with heap:=h',toks:=s.toks + 2 }):
 wpAny (model prog w) A (setAttr (.ref x) name v) Q E s:=by
 obtain ⟨od,J,hl⟩:=I.look
 refine PySem.W.set_plain X J hs (PySem.W.osa_open (s:={ s with toks:=s.toks + 1 }) (r:=none) X J hp ht fun b=>?_)
 obtain ⟨cd,hc,hd'⟩:=PySem.W.any_some hh
 have hx:s.heap.get? x=some ⟨.ref C,some dx,.plain,#[]⟩:=I.obj
 refine wpAny_bind (wpAny_pure (wpAny_bind (wpAny_bind (wpAny_loadPart hx (wpAny_bind (PySem.W.Looks.here (s:={ s with toks:=s.toks + 1 }) (PySem.W.looks_clsIn X hc) ?_))))))
 rw [hd']
 refine wpAny_pure (a:=some dx) (wpAny_bind (wpAny_pure (wpAny_bind ?_)))
 refine wpAny_nsSet1 (s:={ s with toks:=s.toks + 1 }) I.ns fun h' hn2 hs2=>?_
 obtain ⟨oD,esD,epD,hoD,hdD,hcD⟩:=hn2.count (PySem.Within.cons name v hw)
 refine wpAny_bind (wpAny_lookBehind hoD (by rw [hdD]; exact pastItsLine_dict (Nat.le_trans hcD (by rw [List.length_cons]; omega))) ?_)
 exact wpAny_pure (h _ ⟨(hs2.2 _ (Ne.symm I.ne)).trans I.obj,hn2,I.ne⟩ hs2)
theorem gY {R:Result->Shared->Prop}{vs:List Value}{kw:List (Str × Value)}(X:K.In s.heap)(hm:PySem.W.makesIn K C=true)
 (hi:PySem.W.findIn K (.ref C) "__init__"=some (some (.ref f)))(hf:PySem.W.typeIn K (.ref f)=some (.type "function"))
 (h:codeAny (model prog w) (A.under (.builtin "type.__call__" ⟨.ref C :: vs,kw⟩)) (.call (.ref f) ⟨.ref (s.heap.objs.size + 1):: vs,kw⟩) (PySem.W.InitBack (s.heap.objs.size + 1) R)
  { s with heap:=(s.heap.push PySem.W.emptyDict).push (PySem.W.instObj C s.heap.objs.size) }):
 codeAny (model prog w) A (.call (.ref C) ⟨vs,kw⟩) R s:=by
 obtain ⟨hh,g,d,t,os⟩:=s
 exact PySem.W.make_core (PySem.W.makes_of X hm) (PySem.W.looks_findIn X hi) (fun self=>PySem.W.bind_fn X self hf) (.inl rfl) h
end
def c8 (f:Str)(v:V):List (Str × V)->List (Str × V)
 | []=>[(f,v)]
 | (g,x):: r=>if g=f then (g,v):: r else (g,x):: c8 f v r
theorem iN (f g:Str)(v:V):∀ fs:List (Str × V),(c8 f v fs).lookup g=if g=f then some v else fs.lookup g
 | []=>by
   show List.lookup g [(f,v)]=_
   by_cases h:g=f
   ·have hb:(g == f)=true:=beq_iff_eq.mpr h
    simp only [List.lookup,hb,if_pos h]
   ·have hb:(g == f)=false:=beq_eq_false_iff_ne.mpr h
    simp only [List.lookup,hb,if_neg h]
 | (k,x):: r=>by
   have ih:=iN f g v r
   rw [show c8 f v ((k,x):: r)=(if k=f then (k,v):: r else (k,x):: c8 f v r) from rfl]
   by_cases hk:k=f
   ·rw [if_pos hk]
    by_cases h:g=k
    ·have hb:(g == k)=true:=beq_iff_eq.mpr h
     simp only [List.lookup,hb,if_pos (h.trans hk)]
    ·have hb:(g == k)=false:=beq_eq_false_iff_ne.mpr h
     simp only [List.lookup,hb,if_neg (fun e:g=f=>h (e.trans hk.symm))]
   ·rw [if_neg hk]
    by_cases h:g=k
    ·have hb:(g == k)=true:=beq_iff_eq.mpr h
     simp only [List.lookup,hb,if_neg (fun e:g=f=>hk (h.symm.trans e))]
    ·have hb:(g == k)=false:=beq_eq_false_iff_ne.mpr h
     simp only [List.lookup,hb]
     exact ih
theorem ig (f:Str)(v:V):∀ fs:List (Str × V),f∈(c8 f v fs).map (·.1)∧∀ g,g∈fs.map (·.1)->g∈(c8 f v fs).map (·.1)
 | []=>⟨by simp [c8],fun g h=>by simp at h⟩
 | (k,x):: r=>by
   obtain ⟨i1,i2⟩:=ig f v r
   rw [show c8 f v ((k,x):: r)=(if k=f then (k,v):: r else (k,x):: c8 f v r) from rfl]
   by_cases hk:k=f
   ·rw [if_pos hk]
    subst hk
    exact ⟨by simp,fun g h=>by simpa using h⟩
   ·rw [if_neg hk]
    refine ⟨?_,fun g h=>?_⟩
    ·rw [List.map_cons]
     exact List.mem_cons_of_mem _ i1
    ·rw [List.map_cons] at h ⊢
     rcases List.mem_cons.mp h with e | e
     ·exact List.mem_cons.mpr (.inl e)
     ·exact List.mem_cons_of_mem _ (i2 g e)
theorem iY (f:Str)(v:V):∀ fs:List (Str × V),(c8 f v fs).length≤fs.length + 1
 | []=>by simp [c8]
 | (k,x):: r=>by
   have ih:=iY f v r
   rw [show c8 f v ((k,x):: r)=(if k=f then (k,v):: r else (k,x):: c8 f v r) from rfl]
   by_cases hk:k=f
   ·rw [if_pos hk,List.length_cons,List.length_cons]; omega
   ·rw [if_neg hk,List.length_cons,List.length_cons]; omega
theorem dt.some_of {v:V}{o:Option Value}(r:dt (some v) o):∃ u,o=some u∧aE v u:=by
 cases o with
 | none=>exact (show False from r).elim
 | some u=>exact ⟨u,rfl,r⟩
theorem dt.none_of {o:Option Value}(r:dt none o):o=none:=by
 cases o with
 | none=>rfl
 | some u=>exact (show False from r).elim
theorem mq {v:V}{u:Value}(r:aE v u):PySem.W.handedIn u=true:=by
 cases v with
 | non=>cases (show u=Value.none from r); rfl
 | bl b=>cases (show u=Value.bool b from r); rfl
 | int i=>obtain ⟨t,e⟩:=(show ∃ t,u=Value.int i t from r); cases e; rfl
 | str x=>obtain ⟨t,e⟩:=(show ∃ t,u=Value.str x t from r); cases e; rfl
 | byt b=>obtain ⟨t,e⟩:=(show ∃ t,u=Value.bytes b t from r); cases e; rfl
 | flt b=>obtain ⟨t,e⟩:=(show ∃ t,u=Value.float b t from r); cases e; rfl
 | ref a=>cases (show u=Value.ref a from r); rfl
 | ty n=>cases (show u=Value.type n from r); rfl
section
variable {P:Program}{w:World}{H H':Hp}{h h':Heap}{a C dx:Addr}{fs fs':List (Str × V)}
theorem eB (hok:eK P w H h)(e:H a=some (.ins C dx fs)):∃ mA,ObjM h a dx C mA∧(∀ f,dt (fs.lookup f) (mA f))∧PySem.Within mA (fs.map (·.1))∧fs.length≤1000∧H dx=some (.own a):=by
 obtain ⟨d,z,ne,ob,mA,n,r,q⟩:=(show bc P w H h a (.ins C dx fs) from hok a _ e)
 exact ⟨mA,⟨ob,n,ne⟩,r,q,z,d⟩
end
structure Cls (K:PySem.W.Frag)(C:Addr):Prop where
 pg:PySem.W.plainGet K C Str.empty=true
 hd:PySem.W.hasDictIn K C=true
 po:PySem.W.plainOver K C=true
 sa:PySem.W.findIn K (.ref C) "__setattr__"=some (some (.builtin "object.__setattr__"))
theorem Cls.get {K:PySem.W.Frag}{C:Addr}(c:Cls K C)(f:Str):PySem.W.plainGet K C f=true:=c.pg
def cn (K:PySem.W.Frag)(C:Addr)(f:Str):Prop:=PySem.W.findIn K (.ref C) f=some none
theorem cn.taker {K:PySem.W.Frag}{C:Addr}{f:Str}(n:cn K C f):PySem.W.takerIn K C f=some none:=by
 unfold PySem.W.takerIn
 rw [show PySem.W.findIn K (.ref C) f=some none from n]
 rfl
structure Meth (K:PySem.W.Frag)(C:Addr)(m:Str)(f:Addr):Prop where
 at_:PySem.W.findIn K (.ref C) m=some (some (.ref f))
 fn:PySem.W.isFn K (.ref f)=true
 kp:PySem.W.keepIn K (.ref f)=true
section
variable {X:Cx}{pins:List (Addr × Obj)}{σ:St}{H:Hp}{s:Shared}{a C dx:Addr}{fs:List (Str × V)}{f:Str}{v:V}{A:Around}{E:Value->Shared->Prop}
theorem qJ {b:Bool}{Q:Value->Shared->Prop}(I:Inv X pins σ H s)(e:H a=some (.ins C dx fs))(c:Cls X.K C)(n:cn X.K C f)(l:fs.lookup f=some v)
 (h:∀ u s',Inv X pins σ H s'->aE v u->Q u s'):wpAny (model X.prog X.w) A (getAttr (.ref a) f b) Q E s:=by
 obtain ⟨mA,O,r,_,_,_⟩:=eB I.hok e
 obtain ⟨u,hu,ru⟩:=dt.some_of (v:=v) (o:=mA f) (by rw [← l]; exact r f)
 exact zj I.kIn O (c.get f) c.hd n hu (mq ru) (h u _ (I.tok _) ru)
theorem ku {m:Str}{g:Addr}{pl:Sem Bool}{Q:Value × List Value->Shared->Prop}(I:Inv X pins σ H s)(e:H a=some (.ins C dx fs))(c:Cls X.K C)(k:Meth X.K C m g)(l:fs.lookup m=none)
 (h:Q (.ref g,[.ref a]) s):wpAny (model X.prog X.w) A (getMethod (.ref a) m pl) Q E s:=by
 obtain ⟨mA,O,r,_,_,_⟩:=eB I.hok e
 have hn:mA m=none:=dt.none_of (by rw [← l]; exact r m)
 exact xb I.kIn O (c.get m) k.at_ k.fn hn h
theorem qM {y:V}{u:Value}{Q:Unit->Shared->Prop}(I:Inv X pins σ H s)(e:H a=some (.ins C dx fs))(c:Cls X.K C)(n:cn X.K C f)(hl:fs.length < 1000)(ry:aE y u)
 (h:∀ s',Inv X pins σ (upd H a (.ins C dx (c8 f y fs))) s'->Q () s'):wpAny (model X.prog X.w) A (setAttr (.ref a) f u) Q E s:=by
 obtain ⟨mA,O,r,wi,_,ho⟩:=eB I.hok e
 have hz:(fs.map (·.1)).length≤sizeLine:=by rw [List.length_map,sizeLine_eq]; omega
 refine zL I.kIn O c.sa c.po n.taker c.hd wi hz fun h' O' sb=>h _ ?_
 have hd:∃ o,h'.get? dx=some o:=let ⟨o,_,_,e',_⟩:=O'.ns; ⟨o,e'⟩
 refine I.write (x:=a) (e:=dx) (by rw [e]; exact True.intro) (.inr ho) (fun b q hb z=>(sb.2 b hb).trans z) hd ?_
 refine ⟨by rw [aq O.ne]; exact ho,?_,O.ne,O'.obj,_,O'.ns,fun g=>?_,fun g hg=>?_⟩
 ·have:=iY f y fs; omega
 ·show dt ((c8 f y fs).lookup g) (if g=f then some u else mA g)
  rw [iN]
  by_cases q:g=f
  ·rw [if_pos q,if_pos q]; exact ry
  ·rw [if_neg q,if_neg q]; exact r g
 ·by_cases q:g=f
  ·rw [q]; exact (ig f y fs).1
  ·refine (ig f y fs).2 g (wi g fun z=>hg ?_)
   show (if g=f then some u else mA g)=none
   rw [if_neg q]; exact z
theorem Inv.made (I:Inv X pins σ H s):Inv X pins σ (upd (upd H s.heap.objs.size (.own (s.heap.objs.size + 1))) (s.heap.objs.size + 1) (.ins C s.heap.objs.size []))
 { s with heap:=(s.heap.push PySem.W.emptyDict).push (PySem.W.instObj C s.heap.objs.size) }:=by
 have e1:(s.heap.push PySem.W.emptyDict).get? s.heap.objs.size=some PySem.W.emptyDict:=Heap.get?_push_size s.heap rfl
 have e2:((s.heap.push PySem.W.emptyDict).push (PySem.W.instObj C s.heap.objs.size)).get? (s.heap.objs.size + 1)=some (PySem.W.instObj C s.heap.objs.size):=by
  have:=Heap.get?_push_size (s.heap.push PySem.W.emptyDict) (o:=PySem.W.instObj C s.heap.objs.size) rfl
  rwa [Heap.size_push] at this
 have e3:(s.heap.push PySem.W.emptyDict).Ns s.heap.objs.size (fun _=>none):=⟨PySem.W.emptyDict,#[],_,e1,rfl,(fun e he=>absurd he (by simp)),fun _=>rfl⟩
 have I1:=I.laid (a:=s.heap.objs.size) (o:=.own (s.heap.objs.size + 1)) (h':=s.heap.push PySem.W.emptyDict) (t':=s.toks) (fun b u q=>Heap.get?_push_of_some _ q) (Nat.le_refl _) ⟨_,e1⟩
 refine I1.laid (a:=s.heap.objs.size + 1) (o:=.ins C s.heap.objs.size []) (t':=s.toks) (fun b u q=>Heap.get?_push_of_some _ q) (Nat.le_of_eq (Heap.size_push _ _)) ?_
 have ne:s.heap.objs.size≠s.heap.objs.size + 1:=Nat.ne_of_lt (Nat.lt_succ_self _)
 refine ⟨by rw [aq ne,ag],Nat.zero_le _,ne,e2,fun _=>none,(Heap.Ns1.of_empty e3).at fun o q=>Heap.get?_push_of_some _ q,fun _=>True.intro,fun y hy=>absurd rfl hy⟩
theorem sm {prog:Program}{w:World}{env:Env}{e:Expr}{f:Str}{pos:Pos}{s:Shared}{Q:Value->Shared->Prop}(hb:attributeBase e f env (eval e env)=eval e env)
 (h:wpAny (model prog w) A (eval e env) (fun o s₁=>wpAny (model prog w) A (getAttr o f true) Q E s₁) E s):wpAny (model prog w) A (eval (.Attribute e f pos) env) Q E s :=
 Attribute_any_ h (by rw [arm_eval_Attribute,hb])
end
def DT (K:PySem.W.Frag)(ta:TE)(f:Str):TE:=fun σ H Q=>ta σ H fun x H1=>∃ a C dx fs v,x = .ref a∧H1 a=some (.ins C dx fs)∧Cls K C∧cn K C f∧fs.lookup f=some v∧Q v H1
def Eb (K:PySem.W.Frag)(ta tv:TE)(f:Str):TS:=fun D σ H=>tv σ H fun y H1=>ta σ H1 fun x H2=>∃ a C dx fs,x = .ref a∧H2 a=some (.ins C dx fs)∧Cls K C∧cn K C f∧fs.length < 1000 ∧
 D.nx σ (upd H2 a (.ins C dx (c8 f y fs)))
section
variable {X:Cx}{o e value:Expr}{f:Str}{pos pos' tpos:Pos}{ta tv:TE}
theorem dA (he:PE X e ta)(hb:attributeBase e f X.env (eval e X.env)=eval e X.env):PE X (.Attribute e f pos) (DT X.K ta f):=by
 intro pins s σ H Q I h
 refine sm hb (bH (he pins s σ H _ I h) fun u s1 ⟨x,H1,I1,rx,a,C,dx,fs,v,ex,ea,c,n,l,q⟩=>?_)
 subst ex
 obtain rfl:u=Value.ref a:=rx
 exact qJ I1 ea c n l fun u' s2 I2 ru=>⟨v,H1,I2,ru,q⟩
theorem qu (ha:PE X o ta)(hv:PE X value tv)(hs:swapsWith value (some (.Attribute o f pos')) pos.line X.env=pure false):PS X (.Assign [.Attribute o f pos'] value pos) (Eb X.K ta tv f):=by
 intro pins s σ H D I h
 refine plainObj_wpAny_Assign_Attribute (bH (hv pins s σ H _ I h) fun u s1 ⟨y,H1,I1,ry,q⟩=>bH (ha pins s1 σ H1 _ I1 q) fun ov s2 ⟨x,H2,I2,rx,a,C,dx,fs,ex,ea,c,n,l,q2⟩=>?_) hs
 subst ex
 obtain rfl:ov=Value.ref a:=rx
 exact qM I2 ea c n l ry fun s3 I3=>⟨σ,_,I3,q2⟩
end
section
variable {X:Cx}{pins:List (Addr × Obj)}{σ:St}{H:Hp}{s:Shared}{A:Around}{E:Value->Shared->Prop}{Q:Value->Shared->Prop}{c:Value}{b:Bool}
inductive TyOf (K:PySem.W.Frag)(H:Hp):V->Value->Prop where
 | non:TyOf K H .non (.type "NoneType")
 | bl (x:Bool):TyOf K H (.bl x) (.type "bool")
 | int (i:Int):TyOf K H (.int i) (.type "int")
 | str (x:Str):TyOf K H (.str x) (.type "str")
 | flt (x:UInt64):TyOf K H (.flt x) (.type "float")
 | lst {a:Addr}{xs:List V}(e:H a=some (.lst xs)):TyOf K H (.ref a) (.type "list")
 | frz {a:Addr}{o:Obj}{xs:List V}(e:H a=some (.frz o (.lst xs))):TyOf K H (.ref a) (.type "list")
 | tup {a:Addr}{xs:List V}(e:H a=some (.tup xs)):TyOf K H (.ref a) (.type "tuple")
 | dK {a:Addr}{kvs:List (Key × V)}(e:H a=some (.dK kvs)):TyOf K H (.ref a) (.type "dict")
 | dT {a:Addr}{kvs:List (List Key × V)}(e:H a=some (.dT kvs)):TyOf K H (.ref a) (.type "dict")
 | ins {a C dx:Addr}{fs:List (Str × V)}(e:H a=some (.ins C dx fs))(cl:Cls K C)(ha:PySem.W.findIn K (.ref C) "__class__"=some (some (.builtin "object.__class__")))
  (hn:PySem.W.specialIn K (.builtin "object.__class__") "__get__"=some (some (.builtin "getset_descriptor.__get__")))(htk:PySem.W.takesIn K (.builtin "object.__class__")=some true)
  (hm:PySem.W.mroIn K C (.type "object")=some true):TyOf K H (.ref a) (.ref C)
theorem u9 {x:V}{u t:Value}(I:Inv X pins σ H s)(rx:aE x u)(ty:TyOf X.K H x t)(e:PySem.W.kitOne X.K t c=some b)(h:∀ tk,Q (.bool b) { s with toks:=tk }):
 wpAny (model X.prog X.w) A (call (.builtin "isinstance") [u,c]) Q E s:=by
 cases ty with
 | non=>cases (show u=Value.none from rx); exact PySem.W.kia_one PySem.W.kitx_none I.kIn True.intro e (fun z=>nomatch z) h
 | bl y=>cases (show u=Value.bool y from rx); exact PySem.W.kia_one PySem.W.kitx_bool I.kIn True.intro e (fun z=>nomatch z) h
 | int i=>obtain ⟨t,q⟩:=(show ∃ t,u=Value.int i t from rx); cases q; exact PySem.W.kia_one PySem.W.kitx_int I.kIn True.intro e (fun z=>nomatch z) h
 | str y=>obtain ⟨t,q⟩:=(show ∃ t,u=Value.str y t from rx); cases q; exact PySem.W.kia_one PySem.W.kitx_str I.kIn True.intro e (fun z=>nomatch z) h
 | flt y=>obtain ⟨t,q⟩:=(show ∃ t,u=Value.float y t from rx); cases q; exact PySem.W.kia_one PySem.W.kitx_float I.kIn True.intro e (fun z=>nomatch z) h
 | @lst a xs ea =>
   cases (show u=Value.ref a from rx)
   obtain ⟨_,_,n,_,h1⟩:=(show bc X.prog X.w H s.heap a (.lst xs) from I.hok a _ ea)
   exact PySem.W.kia_one PySem.W.kitx_list I.kIn ⟨_,h1,rfl⟩ e (fun z=>nomatch z) h
 | @frz a ob xs ea =>
   cases (show u=Value.ref a from rx)
   obtain ⟨_,_,_,n,_,h1⟩:=(show bc X.prog X.w H s.heap a (.frz ob (.lst xs)) from I.hok a _ ea)
   exact PySem.W.kia_one PySem.W.kitx_list I.kIn ⟨_,h1,rfl⟩ e (fun z=>nomatch z) h
 | @tup a xs ea =>
   cases (show u=Value.ref a from rx)
   obtain ⟨_,_,_,p⟩:=(show bc X.prog X.w H s.heap a (.tup xs) from I.hok a _ ea)
   obtain ⟨o,h1,h2,_⟩:=p
   exact PySem.W.kia_one PySem.W.kitx_tuple I.kIn ⟨o,h1,h2⟩ e (fun z=>nomatch z) h
 | @dK a kvs ea =>
   cases (show u=Value.ref a from rx)
   obtain ⟨_,_,vs,_,p⟩:=(show bc X.prog X.w H s.heap a (.dK kvs) from I.hok a _ ea)
   obtain ⟨o,es,ep,h1,h2,_⟩:=p
   exact PySem.W.kia_one PySem.W.kitx_dict I.kIn ⟨o,h1,h2.1⟩ e (fun z=>nomatch z) h
 | @dT a kvs ea =>
   cases (show u=Value.ref a from rx)
   obtain ⟨_,_,xs,_,o,es,ep,h1,h2,_⟩:=(show bc X.prog X.w H s.heap a (.dT kvs) from I.hok a _ ea)
   exact PySem.W.kia_one PySem.W.kitx_dict I.kIn ⟨o,h1,h2.1⟩ e (fun z=>nomatch z) h
 | @ins a C dx fs ea cl ha hn htk hm =>
   cases (show u=Value.ref a from rx)
   obtain ⟨mA,O,_⟩:=eB I.hok ea
   obtain ⟨od,J,_⟩:=O.look
   exact PySem.W.kia_one (PySem.W.kitx_own (cl.get _) cl.hd ha hn htk hm) I.kIn J e (fun z=>nomatch z) h
end
structure Room (k:Nat)(A:Around):Prop where
 hd:A.handled=none
 dp:A.depth + 3 * k + 5 < recursionLimit
 un:A.units + 16 * k + 200 < cLine
 gd:A.guards=some []
theorem Room.mono {j k:Nat}{A:Around}(r:Room k A)(h:j≤k):Room j A:=⟨r.hd,by have:=r.dp; omega,by have:=r.un; omega,r.gd⟩
theorem Room.deeper {k:Nat}{A:Around}(r:Room (k + 1) A)(env:Env):Room k (A.deeper env):=
 ⟨r.hd,by have:=r.dp; show A.depth + 1 + 3 * k + 5 < _; omega,by have:=r.un; show A.units + 3 + 16 * k + 200 < _; omega,r.gd⟩
theorem Room.in1 {k:Nat}{A:Around}(r:Room (k + 1) A):Room k A.in1 :=
 ⟨r.hd,by have:=r.dp; show A.depth + 3 * k + 5 < _; omega,by have:=r.un; show A.units + 1 + 16 * k + 200 < _; omega,r.gd⟩
theorem qt {A:Around}{C:Addr}{us:List Value}{kw:List (Str × Value)}:(A.under (.builtin "type.__call__" ⟨.ref C :: us,kw⟩)).depth=A.depth + 1:=by
 first | rfl | simp [Around.under,Code.weight,Code.isCreation,Code.isGuard,Code.isCaller,Code.frames,Code.isFrame,guardIds]
theorem oF {A:Around}{C:Addr}{us:List Value}{kw:List (Str × Value)}:(A.under (.builtin "type.__call__" ⟨.ref C :: us,kw⟩)).guards=A.guards:=by
 first | rfl | simp [Around.under,Code.guards,Code.isGuard,guardIds,pushGuards]
theorem qU {A:Around}{C:Addr}{us:List Value}{kw:List (Str × Value)}:(A.under (.builtin "type.__call__" ⟨.ref C :: us,kw⟩)).units=A.units + 1:=by
 first | rfl | simp [Around.under,Code.cUnits,Code.frames,Code.isFrame]
theorem Room.make {k:Nat}{A:Around}(r:Room (k + 1) A)(C:Addr)(us:List Value)(kw:List (Str × Value)):Room k (A.under (.builtin "type.__call__" ⟨.ref C :: us,kw⟩)):=
 ⟨r.hd,by have:=r.dp; rw [qt]; omega,by have:=r.un; rw [qU]; omega,by rw [oF]; exact r.gd⟩
theorem Room.depth {k:Nat}{A:Around}(r:Room k A):A.depth < recursionLimit:=by have:=r.dp; omega
theorem Room.units {k:Nat}{A:Around}(r:Room k A):A.units + 64 < cLine:=by have:=r.un; omega
theorem Room.units0 {k:Nat}{A:Around}(r:Room k A):A.units < cLine:=by have:=r.un; omega
def tNil:TA:=fun _ H Q=>Q [] H
def cT (ta:TE)(tr:TA):TA:=fun σ H Q=>ta σ H fun x H1=>tr σ H1 fun xs H2=>Q (x :: xs) H2
section
variable {X:Cx}{e:Expr}{es:List Expr}{te:TE}{t:TA}{pos:Pos}
theorem ae:PA X [] tNil:=fun _ _ _ _ H Q I h=>Calls.spliced_nil ⟨[],H,I,.nil,h⟩
theorem b8 (ha:PE X e te)(hr:PA X es t)(hs:starEach (e :: es) X.env=(false,eval e X.env):: starEach es X.env:=by rfl):PA X (e :: es) (cT te t):=by
 intro pos pins s σ H Q I h
 rw [hs]
 show wpAny _ _ (spliced ((false,eval e X.env):: backTo pos (starEach es X.env))) _ _ s
 refine Calls.spliced_cons (bH (ha pins s σ H _ I h) fun u s1 ⟨x,H1,I1,r1,q1⟩=>?_)
 exact bH (hr pos pins s1 σ H1 _ I1 q1) fun us s2 ⟨xs,H2,I2,r2,q2⟩=>⟨x :: xs,H2,I2,.cons r1 r2,q2⟩
def Cm (t:TA):TE:=fun σ H Q=>t σ H fun xs H1=>xs.length≤sizeLine∧∀ p,H1 p=none->Q (.ref p) (upd H1 p (.tup xs))
def yx (t:TA):TE:=fun σ H Q=>t σ H fun xs H1=>xs.length≤sizeLine∧∀ p,H1 p=none->Q (.ref p) (upd H1 p (.lst xs))
theorem aC {x1}(h:PA X es t):PE X (.Tuple es x1 pos) (Cm t):=by
 intro pins s σ H Q I hq
 refine wpAny_Tuple_spliced (bH (h pos pins s σ H _ I hq) fun us s1 ⟨xs,H1,I1,r,z,q⟩=>⟨by rw [← r.length]; exact z,?_⟩)
 have hf:H1 s1.heap.objs.size=none:=I1.hok.fresh (Nat.le_refl _)
 refine ⟨.ref s1.heap.objs.size,upd H1 s1.heap.objs.size (.tup xs),I1.laid (t':=s1.toks) (fun b u e=>Heap.get?_push_of_some _ e) (Nat.le_refl _) ?_,rfl,q _ hf⟩
 exact ⟨z,us,r,⟨_,Heap.get?_push_size _ rfl,rfl,_,rfl⟩⟩
theorem bM (h:PA X es t):PE X (.List es pos) (yx t):=by
 intro pins s σ H Q I hq
 refine wpAny_List_spliced (bH (h pos pins s σ H _ I hq) fun us s1 ⟨xs,H1,I1,r,z,q⟩=>⟨by rw [← r.length]; exact z,?_⟩)
 have hf:H1 s1.heap.objs.size=none:=I1.hok.fresh (Nat.le_refl _)
 refine ⟨.ref s1.heap.objs.size,upd H1 s1.heap.objs.size (.lst xs),I1.laid (t':=s1.toks) (fun b u e=>Heap.get?_push_of_some _ e) (Nat.le_refl _) ?_,rfl,q _ hf⟩
 exact ⟨z,us,0,r,Heap.get?_push_size _ rfl⟩
end
abbrev Sp:=List V->Hp->VK->XK->Prop
abbrev CXT:=List Env->Hp->Shared->XK->Value->Shared->Prop
structure Env0 (P:Program)(w:World)(K:PySem.W.Frag)(mg:Str->Option Value)(base:Heap)(A:Around)(outer:List Env)(s:Shared)(H:Hp):Prop where
 frames:A.frames=some outer
 mod:Mod K mg base
 bs:∀ b o,base.get? b=some o->s.heap.get? b=some o∧H b=none
 bsz:base.objs.size≤s.heap.objs.size
 funs:s.heap.FunFrames base outer
 frf:∀ b∈di outer,H b=none
 hok:eK P w H s.heap
 bare:AllBare s.gens
def CE (outer:List Env)(P:Program)(w:World)(H:Hp)(s:Shared)(Q:VK)(u:Value)(s':Shared):Prop :=
 ∃ v H',s'.os=s.os∧AllBare s'.gens∧Un (di outer) [] H H' s.heap s'.heap∧eK P w H' s'.heap∧aE v u∧Q v H'
def CR (CX:CXT)(outer:List Env)(P:Program)(w:World)(H:Hp)(s:Shared)(Q:VK)(E:XK)(r:Result)(s':Shared):Prop :=
 match r with
 | .ok (.ret u)=>CE outer P w H s Q u s'
 | .ok _=>False
 | .error e=>CX outer H s E e s'
structure FnOk (P:Program)(w:World)(K:PySem.W.Frag)(mg:Str->Option Value)(base:Heap)(CX:CXT)(k:Nat)(f:Addr)(fd:FuncData)(ps:List Str)(sp:Sp):Prop where
 len:∀ vs H Q E,sp vs H Q E->vs.length=ps.length
 run:∀ (A:Around)(outer:List Env)(s:Shared)(H:Hp)(args:Args)(us:List Value)(vs:List V)(Q:VK)(E:XK),Room k A->Env0 P w K mg base A outer s H->BindsTo s fd args (ps.zip us)->aG vs us->sp vs H Q E →
  codeAny (model P w) A (.call (.ref f) args) (CR CX outer P w H s Q E) s
theorem Env0.make {P:Program}{w:World}{K:PySem.W.Frag}{mg:Str->Option Value}{base:Heap}{A:Around}{outer:List Env}{s:Shared}{H:Hp}(e:Env0 P w K mg base A outer s H)(C:Addr)(us:List Value)(kw:List (Str × Value)):
 Env0 P w K mg base (A.under (.builtin "type.__call__" ⟨.ref C :: us,kw⟩)) outer s H:=⟨by first | exact e.frames | (simpa [Around.under,Code.envs,Code.isFrame,pushEnvs] using e.frames),e.mod,e.bs,e.bsz,e.funs,e.frf,e.hok,e.bare⟩
theorem Env0.in1 {P:Program}{w:World}{K:PySem.W.Frag}{mg:Str->Option Value}{base:Heap}{A:Around}{outer:List Env}{s:Shared}{H:Hp}(e:Env0 P w K mg base A outer s H):
 Env0 P w K mg base A.in1 outer s H:=⟨e.frames,e.mod,e.bs,e.bsz,e.funs,e.frf,e.hok,e.bare⟩
section
variable {X:Cx}{pins:List (Addr × Obj)}{σ:St}{H:Hp}{s s':Shared}
theorem Inv.env0 (I:Inv X pins σ H s):Env0 X.prog X.w X.K X.mg X.base X.A X.stack s H :=
 ⟨I.ok.frames,I.ok.mod,I.bs,Nat.le_trans I.ok.bsz I.sz,I.stack,I.stkFree,I.hok,I.bare⟩
theorem Inv.after {Q:VK}{u:Value}(I:Inv X pins σ H s)(h:CE X.stack X.prog X.w H s Q u s'):EP X pins σ Q u s':=by
 obtain ⟨v,H',os,bare,un,hok,r,q⟩:=h
 obtain ⟨hh,g,d,t,os'⟩:=s'
 obtain rfl:os'=s.os:=os
 exact ⟨v,H',I.call (h':=hh) (g':=g) (d':=d) (t':=t) (ch:=[]) un hok bare (fun b z=>absurd z (by simp)),r,q⟩
end
def Cw (sp:Sp)(dvs:List V)(E:XK)(t:TA):TE:=fun σ H Q=>t σ H fun vs H1=>sp (vs++dvs) H1 Q E
def AS (C:Addr)(m:Str)(sp:Sp)(dvs:List V)(E:XK)(ta:TE)(t:TA):TE:=fun σ H Q=>ta σ H fun x H1=>∃ a dx fs,x = .ref a∧H1 a=some (.ins C dx fs)∧fs.lookup m=none ∧
 t σ H1 fun vs H2=>sp (x :: (vs++dvs)) H2 Q E
def A0 (C:Addr)(sp:Sp)(dvs:List V)(E:XK)(t:TA):TE:=fun σ H Q=>t σ H fun vs H1=>∀ x dx,H1 x=none->H1 dx=none->dx≠x →
 sp (.ref x :: (vs++dvs)) (upd (upd H1 dx (.own x)) x (.ins C dx [])) (fun v H2=>v = .non∧Q (.ref x) H2) E
def aH (K:PySem.W.Frag)(fd:FuncData)(ps:List Str)(ds:List Value):Prop :=
 ∀ (s:Shared)(us:List Value),K.In s.heap->(us++ds).length=ps.length->BindsTo s fd ⟨us,[]⟩ (ps.zip (us++ds))
theorem aH.all {K:PySem.W.Frag}{fd:FuncData}{ps:List Str}(h:∀ us:List Value,us.length=ps.length->bindArgs fd ⟨us,[]⟩=pure (ps.zip us)):aH K fd ps []:=fun s us _ hl=>by
 rw [List.append_nil] at hl ⊢
 exact .of_eq (h us hl)
def cM (CX:CXT)(X:Cx)(E:XK):Prop:=∀ (pins:List (Addr × Obj))(σ:St)(H:Hp)(s:Shared)(e:Value)(s':Shared),Inv X pins σ H s->CX X.stack H s E e s'->X.xe e s'
section
variable {X:Cx}{CX:CXT}{k:Nat}{f C:Addr}{fd:FuncData}{ps:List Str}{sp:Sp}{dvs:List V}{ds:List Value}{E:XK}{x m:Str}{p pos apos:Pos}{e o:Expr}{es:List Expr}{ta:TE}{t:TA}
theorem qQ {pins:List (Addr × Obj)}{σ:St}{H:Hp}{s:Shared}{Q:VK}{us:List Value}{vs:List V}(F:FnOk X.prog X.w X.K X.mg X.base CX k f fd ps sp)(hr:Room k X.A)(hb:aH X.K fd ps ds)(hd:aG dvs ds)(hx:cM CX X E)
 (I:Inv X pins σ H s)(r:aG vs us)(h:sp (vs++dvs) H Q E):wpAny (model X.prog X.w) X.A (call (.ref f) us) (EP X pins σ Q) X.xe s:=by
 have r2:aG (vs++dvs) (us++ds):=r.append hd
 have hl:(us++ds).length=ps.length:=by rw [← r2.length]; exact F.len _ _ _ _ h
 refine wpAny_call (codeAny_mono (F.run X.A X.stack s H ⟨us,[]⟩ (us++ds) (vs++dvs) Q E hr I.env0 (hb s us I.kIn hl) r2 h) fun r s' hq=>?_)
 cases r with
 | error e=>exact hx pins σ H s e s' I hq
 | ok fl =>
   cases fl with
   | ret u=>exact I.after hq
   | next=>exact False.elim hq
   | brk=>exact False.elim hq
   | cont=>exact False.elim hq
theorem aB (F:FnOk X.prog X.w X.K X.mg X.base CX k f fd ps sp)(hr:Room k X.A)(hg:Gl X x)(hm:X.mg x=some (.ref f))(hk:PySem.W.keepIn X.K (.ref f)=true)(hb:aH X.K fd ps ds)(hd:aG dvs ds)(hx:cM CX X E)
 (ha:PA X (e :: es) t)(hdb:(x == ("__debug__":Str))=false:=by decide)(he:starEach (e :: es) X.env=(false,eval e X.env):: starEach es X.env:=by rfl)(hpl:(backTo pos (starEach es X.env)).any (·.1)=false:=by rfl):
 PE X (.Call (.Name x p) (e :: es) [] pos) (Cw sp dvs E t):=by
 intro pins s σ H Q I h
 refine wpAny_Call_Name_kw (c4 I hg hm ?_ hdb)
 refine PySem.W.callWith_K (h₀:=X.base) I.ok.mod.kin hk (bH (ha pos pins s σ H _ I h) fun us s1 ⟨vs,H1,I1,r,q⟩=>⟨I1.kIn,?_⟩) he hpl
 exact qQ F hr hb hd hx I1 r q
theorem nG {pl:Sem Bool}(he:PE X o ta)(c:Cls X.K C)(hm:Meth X.K C m f)(F:FnOk X.prog X.w X.K X.mg X.base CX k f fd ps sp)(hr:Room k X.A)(hb:aH X.K fd ps ds)(hd:aG dvs ds)(hx:cM CX X E)(ha:PA X (e :: es) t)
 (hst:starEach (e :: es) X.env=(false,eval e X.env):: starEach es X.env:=by rfl)(hpl:(backTo pos (starEach es X.env)).any (·.1)=false:=by rfl)
 (ht:eval (.Call (.Attribute o m apos) (e :: es) [] pos) X.env=(do
  let ov ← eval o X.env
  standAt apos.atName
  let (f,first) ← holding [ov] (getMethod ov m pl)
  callWith pos f first (backTo pos (starEach (e :: es) X.env)) (backToKw pos (keywordEach [] X.env))):=by rfl):
 PE X (.Call (.Attribute o m apos) (e :: es) [] pos) (AS C m sp dvs E ta t):=by
 intro pins s σ H Q I h
 refine PySem.W.methodCall_KW (pl:=pl) (bH (he pins s σ H _ I h) fun u s1 ⟨x,H1,I1,rx,a,dx,fs,ex,ea,l,q⟩=>?_) ht
 subst ex
 obtain rfl:u=Value.ref a:=rx
 refine ku I1 ea c hm l ?_
 refine PySem.W.callWith_K (first:=[.ref a]) (h₀:=X.base) I.ok.mod.kin hm.kp (bH (ha pos pins s1 σ H1 _ I1 q) fun us s2 ⟨vs,H2,I2,r,q2⟩=>⟨I2.kIn,?_⟩) hst hpl
 exact qQ (us:=.ref a :: us) (vs:=.ref a :: vs) F hr hb hd hx I2 (.cons rfl r) q2
theorem cP {pl:Sem Bool}(he:PE X o ta)(c:Cls X.K C)(hm:Meth X.K C m f)(F:FnOk X.prog X.w X.K X.mg X.base CX k f fd ps sp)(hr:Room k X.A)(hb:aH X.K fd ps ds)(hd:aG dvs ds)(hx:cM CX X E)
 (ht:eval (.Call (.Attribute o m apos) [] [] pos) X.env=(do
  let ov ← eval o X.env
  standAt apos.atName
  let (f,first) ← holding [ov] (getMethod ov m pl)
  callWith pos f first (backTo pos (starEach [] X.env)) (backToKw pos (keywordEach [] X.env))):=by rfl):
 PE X (.Call (.Attribute o m apos) [] [] pos) (AS C m sp dvs E ta tNil):=by
 intro pins s σ H Q I h
 refine PySem.W.methodCall_KW (pl:=pl) (bH (he pins s σ H _ I h) fun u s1 ⟨x,H1,I1,rx,a,dx,fs,ex,ea,l,q⟩=>?_) ht
 subst ex
 obtain rfl:u=Value.ref a:=rx
 refine ku I1 ea c hm l ?_
 exact PySem.W.callWith_K0 (first:=[.ref a]) I1.kIn hm.kp (qQ (us:=[.ref a]) (vs:=[.ref a]) F hr hb hd hx I1 (.cons rfl .nil) q)
structure Mk (K:PySem.W.Frag)(C f:Addr):Prop where
 makes:PySem.W.makesIn K C=true
 init:PySem.W.findIn K (.ref C) "__init__"=some (some (.ref f))
 fn:PySem.W.isFn K (.ref f)=true
 kp:PySem.W.keepIn K (.ref C)=true
theorem vW {pins:List (Addr × Obj)}{σ:St}{H:Hp}{s:Shared}{Q:VK}{us:List Value}{vs:List V}(M:Mk X.K C f)(F:FnOk X.prog X.w X.K X.mg X.base CX k f fd ps sp)(hr:Room (k + 1) X.A)(hb:aH X.K fd ps ds)(hd:aG dvs ds)
 (hx:cM CX X E)(I:Inv X pins σ H s)(r:aG vs us)
 (h:∀ x dx,H x=none->H dx=none->dx≠x->sp (.ref x :: (vs++dvs)) (upd (upd H dx (.own x)) x (.ins C dx [])) (fun v H2=>v = .non∧Q (.ref x) H2) E):
 wpAny (model X.prog X.w) X.A (call (.ref C) us) (EP X pins σ Q) X.xe s:=by
 have hq:=h (s.heap.objs.size + 1) s.heap.objs.size (I.hok.fresh (Nat.le_succ _)) (I.hok.fresh (Nat.le_refl _)) (Nat.ne_of_lt (Nat.lt_succ_self _))
 have I2:=Inv.made (C:=C) I
 have r2:aG (V.ref (s.heap.objs.size + 1):: (vs++dvs)) (Value.ref (s.heap.objs.size + 1):: (us++ds)):=.cons rfl (r.append hd)
 have hl:(Value.ref (s.heap.objs.size + 1):: us++ds).length=ps.length:=by
  have e:=r2.length
  rw [F.len _ _ _ _ hq] at e
  exact e.symm
 refine wpAny_call (gY (f:=f) I.kIn M.makes M.init (beq_iff_eq.mp M.fn) (codeAny_mono (F.run _ X.stack _ _ ⟨Value.ref (s.heap.objs.size + 1):: us,[]⟩ (Value.ref (s.heap.objs.size + 1):: (us++ds)) _ _ E (hr.make C us [])
  (I2.env0.make C us []) (hb _ (Value.ref (s.heap.objs.size + 1):: us) I2.kIn hl) r2 hq) fun r s' hq'=>?_))
 cases r with
 | error e=>exact hx pins σ _ _ e s' I2 hq'
 | ok fl =>
   cases fl with
   | ret u =>
     obtain ⟨v,H',I3,rv,ev,q3⟩:=I2.after hq'
     subst ev
     exact ⟨rv,⟨V.ref (s.heap.objs.size + 1),H',I3,rfl,q3⟩⟩
   | next=>exact False.elim hq'
   | brk=>exact False.elim hq'
   | cont=>exact False.elim hq'
theorem gL (M:Mk X.K C f)(F:FnOk X.prog X.w X.K X.mg X.base CX k f fd ps sp)(hr:Room (k + 1) X.A)(hg:Gl X x)(hm:X.mg x=some (.ref C))(hb:aH X.K fd ps ds)(hd:aG dvs ds)(hx:cM CX X E)
 (ha:PA X (e :: es) t)(hdb:(x == ("__debug__":Str))=false:=by decide)(he:starEach (e :: es) X.env=(false,eval e X.env):: starEach es X.env:=by rfl)(hpl:(backTo pos (starEach es X.env)).any (·.1)=false:=by rfl):
 PE X (.Call (.Name x p) (e :: es) [] pos) (A0 C sp dvs E t):=by
 intro pins s σ H Q I h
 refine wpAny_Call_Name_kw (c4 I hg hm ?_ hdb)
 refine PySem.W.callWith_K (h₀:=X.base) I.ok.mod.kin M.kp (bH (ha pos pins s σ H _ I h) fun us s1 ⟨vs,H1,I1,r,q⟩=>⟨I1.kIn,?_⟩) he hpl
 exact vW M F hr hb hd hx I1 r q
end
def PK (X:Cx)(kws:List Keyword)(t:TA):Prop :=
 ∀ (pos:Pos)(pins:List (Addr × Obj))(s:Shared)(σ:St)(H:Hp)(Q:List V->Hp->Prop),Inv X pins σ H s->t σ H Q->wpAny (model X.prog X.w) X.A (evalAll ((backToKw pos (keywordEach kws X.env)).map (·.2))) (AP X pins σ Q) X.xe s
section
variable {X:Cx}{CX:CXT}{k:Nat}{f C:Addr}{fd:FuncData}{ps ks:List Str}{sp:Sp}{E:XK}{x m:Str}{p pos apos kpos:Pos}{e o:Expr}{es:List Expr}{kws:List Keyword}{te ta:TE}{t tk:TA}{nm:Option Str}
theorem xV:PK X [] tNil:=fun _ _ _ _ H Q I h=>wpAny_evalAll_nil ⟨[],H,I,.nil,h⟩
theorem nK (ha:PE X e te)(hr:PK X kws t):PK X (⟨nm,e,kpos⟩ :: kws) (cT te t):=by
 intro pos pins s σ H Q I h
 show wpAny _ _ (evalAll ((do let v ← eval e X.env; standAt pos; pure v):: (backToKw pos (keywordEach kws X.env)).map (·.2))) _ _ s
 refine wpAny_evalAll_cons (wpAny_bind (bH (ha pins s σ H _ I h) fun u s1 ⟨x,H1,I1,r1,q1⟩=>wpAny_bind (wpAny_standAt (wpAny_pure ?_))))
 exact bH (hr pos pins s1 σ H1 _ I1 q1) fun us s2 ⟨xs,H2,I2,r2,q2⟩=>⟨x :: xs,H2,I2,.cons r1 r2,q2⟩
structure KBinds (K:PySem.W.Frag)(fd:FuncData)(ps ks:List Str)(g:List Value->List Value->List Value)(gV:List V->List V->List V):Prop where
 to:∀ (s:Shared)(us ws:List Value),K.In s.heap->(g us ws).length=ps.length->BindsTo s fd ⟨us,ks.zip ws⟩ (ps.zip (g us ws))
 rel:∀ {vs:List V}{us:List Value}{zs:List V}{ws:List Value},aG vs us->aG zs ws->aG (gV vs zs) (g us ws)
variable {g:List Value->List Value->List Value}{gV:List V->List V->List V}
end
structure FnScope (N P:List Str)(sc:Scope):Prop where
 kind:sc.kind = .function
 co:sc.isCoroutine=false
 gen:sc.isGenerator=false
 nd:N.Nodup
 pre:N.take P.length=P
 par:∀ x∈P,sc.names.lookup x=some .local∨sc.names.lookup x=some .cell
 nofree:∀ y∈sc.names,y.2 ≠ .free
theorem eO {N P:List Str}{sc:Scope}(h:sc.kind = .function∧sc.isCoroutine=false∧sc.isGenerator=false∧N.Nodup∧N.take P.length=P∧(∀ x∈P,sc.names.lookup x=some .local∨sc.names.lookup x=some .cell)∧∀ y∈sc.names,y.2 ≠ .free):FnScope N P sc:=⟨h.1,h.2.1,h.2.2.1,h.2.2.2.1,h.2.2.2.2.1,h.2.2.2.2.2.1,h.2.2.2.2.2.2⟩
theorem lA {kindOf:Str->Option NameKind}{x:Str}:∀ {binds:List (Str × Value)}{m:Str->Option Value},(∀ v,(x,v) ∉ binds)->bindL kindOf binds m x=m x
 | [],_,_=>rfl
 | (n,v):: r,m,h=>by
   unfold bindL
   rw [lA fun w hw=>h w (List.mem_cons_of_mem _ hw)]
   split
   ·have:x≠n:=by rintro rfl; exact h v List.mem_cons_self
    simp [this]
   ·rfl
theorem lD {kindOf:Str->Option NameKind}{x:Str}:∀ {binds:List (Str × Value)}{m:Str->Option Value},(∀ v,(x,v) ∉ binds)->bindC kindOf binds m x=m x
 | [],_,_=>rfl
 | (n,v):: r,m,h=>by
   unfold bindC
   rw [lD fun w hw=>h w (List.mem_cons_of_mem _ hw)]
   split
   ·rfl
   ·have:x≠n:=by rintro rfl; exact h v List.mem_cons_self
    simp [this]
theorem lB {kindOf:Str->Option NameKind}{x:Str}{v:Value}:∀ {P:List Str}{vs:List Value}{i:Nat}{m:Str->Option Value},P.Nodup->P[i]?=some x->vs[i]?=some v->kindOf x=some .local →
 bindL kindOf (P.zip vs) m x=some v
 | [],_,_,_,_,h,_,_=>by simp at h
 | _ :: _,[],_,_,_,_,h,_=>by simp at h
 | p :: P,w :: vs,0,m,nd,h1,h2,hk=>by
   simp at h1 h2; subst h1; subst h2
   show bindL kindOf ((p,w):: P.zip vs) m p=_
   unfold bindL
   rw [lA fun v hv=>(List.nodup_cons.mp nd).1 (List.of_mem_zip hv).1,if_pos hk]
   simp
 | p :: P,w :: vs,i + 1,m,nd,h1,h2,hk=>by
   show bindL kindOf ((p,w):: P.zip vs) m x=_
   unfold bindL
   exact lB (i:=i) (List.nodup_cons.mp nd).2 (by simpa using h1) (by simpa using h2) hk
theorem me {kindOf:Str->Option NameKind}{x:Str}{v:Value}:∀ {P:List Str}{vs:List Value}{i:Nat}{m:Str->Option Value},P.Nodup->P[i]?=some x->vs[i]?=some v->kindOf x≠some .local →
 bindC kindOf (P.zip vs) m x=some v
 | [],_,_,_,_,h,_,_=>by simp at h
 | _ :: _,[],_,_,_,_,h,_=>by simp at h
 | p :: P,w :: vs,0,m,nd,h1,h2,hk=>by
   simp at h1 h2; subst h1; subst h2
   show bindC kindOf ((p,w):: P.zip vs) m p=_
   unfold bindC
   rw [lD fun v hv=>(List.nodup_cons.mp nd).1 (List.of_mem_zip hv).1,if_neg hk]
   simp
 | p :: P,w :: vs,i + 1,m,nd,h1,h2,hk=>by
   show bindC kindOf ((p,w):: P.zip vs) m x=_
   unfold bindC
   exact me (i:=i) (List.nodup_cons.mp nd).2 (by simpa using h1) (by simpa using h2) hk
def gb (N:List Str)(vs:List V):St:=vs.map some++List.replicate (N.length - vs.length) none
def dE (CX:CXT)(P:Program)(w:World)(K:PySem.W.Frag)(mg:Str->Option Value)(base:Heap)(N:List Str)(qual:Str)(scope:Scope)(f:Addr)(cd:Value)(A:Around)(outer:List Env)(s:Shared)(H:Hp)(E:XK):Cx where
 prog:=P
 w:=w
 K:=K
 mg:=mg
 base:=base
 A:=A.deeper (envOfC qual scope s.heap.objs.size f cd)
 N:=N
 s₀:=s
 H₀:=H
 env:=envOfC qual scope s.heap.objs.size f cd
 outer:=outer
 stack:=envOfC qual scope s.heap.objs.size f cd :: outer
 ex:=[]
 calm:=true
 fn:=fun _=>true
 pn:=[]
 xe:=fun e s'=>wpAny (model P w) (A.deeper (envOfC qual scope s.heap.objs.size f cd)) (leaving (envOfC qual scope s.heap.objs.size f cd) e) (fun _ s''=>CX outer H s E e s'') (fun e' s''=>CX outer H s E e' s'') s'
theorem pj {sc:Scope}{n:Nat}{x:Str}(h:sc.names.lookup x=some .cell):∃ c,(cellsFrom n sc.names []).lookup x=some c:=by
 have q:=PySem.W.cellsFrom_some sc.names n [] (.inl h)
 exact Option.isSome_iff_exists.mp q
theorem uk {CX:CXT}{P:Program}{w:World}{K:PySem.W.Frag}{mg:Str->Option Value}{base:Heap}{N ps:List Str}{qual:Str}{scope:Scope}{f:Addr}{cd:Value}{A:Around}{outer:List Env}{s s1:Shared}{H:Hp}{E:XK}{us:List Value}{vs:List V}
 (S:FnScope N ps scope)(hd:A.handled=none)(e0:Env0 P w K mg base A outer s H)(hl:vs.length=ps.length)(r:aG vs us)
 (x:InCallC s s.heap.objs.size (bindL (envOfC qual scope s.heap.objs.size f cd).kindOf (ps.zip us) fun _=>none) (cellsFrom (s.heap.objs.size + 1) scope.names []) (bindC (envOfC qual scope s.heap.objs.size f cd).kindOf (ps.zip us) fun _=>none) s1):
 Inv (dE CX P w K mg base N qual scope f cd A outer s H E) [] (gb N vs) H s1:=by
 have hpl:ps.length≤N.length:=by have:=congrArg List.length S.pre; rw [List.length_take] at this; omega
 obtain ⟨h1,tk,rfl,hk⟩:=x.done
 have noA:∀ b:Addr,b ∉ (dE CX P w K mg base N qual scope f cd A outer s H E).ex:=fun b z=>absurd (show b∈([]:List Addr) from z) (by simp)
 refine ⟨⟨e0.mod,S.kind,rfl,rfl,Nat.le_refl _,fun y z c h1 h2=>?_,fun y hy=>?_,fun y c _ h=>?_,fun _=>hd,Around.frames_deeper e0.frames,.inr ⟨rfl,rfl⟩,fun b z=>absurd z (noA b),e0.bs,e0.bsz,fun b _ _=>noA b,fun b z=>absurd z (noA b),e0.funs,e0.frf⟩,
  rfl,e0.bare,Un.kept hk,⟨_,x.toInCall.ns,fun i y v h1 h2 h3=>?_⟩,fun y c h=>⟨_,x.cell y c h⟩,e0.hok.fresh (Nat.le_refl _),fun y c h=>?_,fun p hp=>absurd (show p∈([]:List (Addr × Obj)) from hp) (by simp),e0.hok.kept hk,?_⟩
 ·exact name_of_addr x.apart (PySem.mem_of_lookup h1) (PySem.mem_of_lookup h2)
 ·have hy:scope.names.lookup y=some .cell∨scope.names.lookup y=some .free:=hy
  rcases hy with hy | hy
  ·exact pj hy
  ·exact absurd rfl (S.nofree _ (PySem.mem_of_lookup hy))
 ·exact Nat.le_of_lt (x.above y c (PySem.mem_of_lookup h))
 ·have hi:i < vs.length:=by
   unfold gb at h2
   by_cases hi:i < vs.length
   ·exact hi
   ·rw [List.getElem?_append_right (by simpa using hi)] at h2
    rw [List.getElem?_replicate] at h2
    split at h2 <;> cases h2
  have ha:vs[i]?=some v:=by
   unfold gb at h2
   rw [List.getElem?_append_left (by simpa using hi),List.getElem?_map] at h2
   cases e:vs[i]? with
   | none=>rw [e] at h2; cases h2
   | some a=>rw [e] at h2; cases h2; rfl
  obtain ⟨u,hu,rv⟩:=r.get ha
  have hp:ps[i]?=some y:=by
   rw [← S.pre,List.getElem?_take_of_lt (by omega)]; exact h1
  have ndP:ps.Nodup:=by rw [← S.pre]; exact S.nd.sublist (List.take_sublist _ _)
  refine ⟨u,rv,?_⟩
  rcases S.par y (List.mem_of_getElem? hp) with k | k
  ·exact .inl ⟨k,lB ndP hp hu k⟩
  ·obtain ⟨c,e⟩:=pj (n:=s.heap.objs.size + 1) k
   refine .inr ⟨.inl k,c,e,?_⟩
   have q:=x.cell y c e
   rw [me ndP hp hu (by show scope.names.lookup y≠_; rw [k]; decide)] at q
   exact q
 ·exact e0.hok.fresh (Nat.le_of_lt (x.above y c (PySem.mem_of_lookup h)))
 ·unfold gb
  show _=N.length
  rw [List.length_append,List.length_map,List.length_replicate]
  omega
theorem xX {CX:CXT}{P:Program}{w:World}{K:PySem.W.Frag}{mg:Str->Option Value}{base:Heap}{k:Nat}{f:Addr}{name qual:Str}{params:Arguments}{body:List Stmt}{scope:Scope}{dV kV doc pm cdv ct oc:Value}{an od:Option Addr}
 {osl:Array (Option Value)}{N ps:List Str}{sp:Sp}(lk:K.lookup f=some ⟨oc,od,.func (PySem.W.fnOf name qual params body scope dV kV doc pm an cdv ct),osl⟩)(hcd:PySem.W.codeIn K cdv qual=true)(S:FnScope N ps scope)
 (len:∀ vs H Q E,sp vs H Q E->vs.length=ps.length)
 (hbody:∀ (A:Around)(outer:List Env)(s:Shared)(H:Hp)(vs:List V)(Q:VK)(E:XK),Room k (A.deeper (envOfC qual scope s.heap.objs.size f cdv))->sp vs H Q E →
  ∃ t,gB (dE CX P w K mg base N qual scope f cdv A outer s H E) body t∧t { nx:=fun _ H'=>Q .non H',rt:=Q } (gb N vs) H):
 FnOk P w K mg base CX (k + 1) f (PySem.W.fnOf name qual params body scope dV kV doc pm an cdv ct) ps sp:=by
 refine ⟨len,fun A outer s H args us vs Q E hr e0 hb r hsp=>?_⟩
 have hl:=len _ _ _ _ hsp
 have KX:K.In s.heap:=e0.mod.kin.keeps fun b o e=>(e0.bs b o e).1
 have lim:s.heap.NoLimit:=e0.mod.nolimit.keeps fun b o e=>(e0.bs b o e).1
 have hkind:∀ y∈ps.zip us,scope.names.lookup y.1=some .local∨(scope.names.lookup y.1=some .cell∧((cellsFrom (s.heap.objs.size + 1) scope.names []).lookup y.1).isSome=true):=fun ⟨n,v⟩ hy=>by
  rcases S.par n (List.of_mem_zip hy).1 with q | q
  ·exact .inl q
  ·exact .inr ⟨q,PySem.W.cellsFrom_some _ _ _ (.inl q)⟩
 refine codeAny_call_function hr.depth (KX _ _ lk) rfl S.co S.gen rfl (PySem.W.codeRec_of KX hcd) (hb _ _ _ _ ?_)
 refine wpAny_newFunctionEnv_cells S.kind hkind fun env he s1 x=>?_
 subst he
 refine ⟨lim.keeps x.toInCall.keep,codeAny_func ?_⟩
 obtain ⟨t,ht,hq⟩:=hbody A outer s H vs Q E (hr.deeper _) hsp
 have I:Inv (dE CX P w K mg base N qual scope f cdv A outer s H E) [] (gb N vs) H s1:=uk S hr.hd e0 hl r x
 refine wpAny_mono (ht [] s1 (gb N vs) H _ I hq) (fun fl s' hs=>?_) fun e s' hs=>hs
 have fin:∀ {σ':St}{H':Hp}{v:V}{u:Value},Inv (dE CX P w K mg base N qual scope f cdv A outer s H E) [] σ' H' s'->aE v u->Q v H'->CE outer P w H s Q u s' :=
  fun {σ' H' v u} J rv q=>⟨v,H',J.os,J.bare,J.base,J.hok,rv,q⟩
 cases fl with
 | ret u =>
   obtain ⟨v,σ',H',J,rv,q⟩:=hs
   exact fin J rv q
 | next =>
   obtain ⟨σ',H',J,q⟩:=hs
   exact fin (v:=V.non) (u:=Value.none) J rfl q
 | brk =>
   obtain ⟨_,_,_,q⟩:=hs
   exact False.elim q
 | cont =>
   obtain ⟨_,_,_,q⟩:=hs
   exact False.elim q
section
variable {X:Cx}{x:Str}{p pos:Pos}{e:Expr}{es:List Expr}{t:TA}{id T:String}{r:List V->Hp->VK->Prop}
def C6 (r:List V->Hp->VK->Prop)(t:TA):TE:=fun σ H Q=>t σ H fun vs H1=>r vs H1 Q
theorem az (hc:bU X (.builtin id) r)(hg:Gl X x)(hm:X.mg x=none)(hv:bootBuiltins x=some (.builtin id))(ha:PA X (e :: es) t)(hn:x ≠ "__name__":=by decide)(hdb:(x == ("__debug__":Str))=false:=by decide)
 (he:starEach (e :: es) X.env=(false,eval e X.env):: starEach es X.env:=by rfl)(hpl:(backTo pos (starEach es X.env)).any (·.1)=false:=by rfl):PE X (.Call (.Name x p) (e :: es) [] pos) (C6 r t):=by
 intro pins s σ H Q I h
 refine wpAny_Call_Name_kw (dm I hg hm hv ?_ hn hdb)
 exact PyProof.Rows.callWith_builtin1 (bH (ha pos pins s σ H _ I h) fun us s1 ⟨vs,H1,I1,r1,q1⟩=>hc pins s1 σ H1 vs us Q I1 r1 q1) he hpl
theorem cE (hc:bU X (.type T) r)(hg:Gl X x)(hm:X.mg x=none)(hv:bootBuiltins x=some (.type T))(ha:PA X (e :: es) t)(hn:x ≠ "__name__":=by decide)(hdb:(x == ("__debug__":Str))=false:=by decide)
 (he:starEach (e :: es) X.env=(false,eval e X.env):: starEach es X.env:=by rfl)(hpl:(backTo pos (starEach es X.env)).any (·.1)=false:=by rfl):PE X (.Call (.Name x p) (e :: es) [] pos) (C6 r t):=by
 intro pins s σ H Q I h
 refine wpAny_Call_Name_kw (dm I hg hm hv ?_ hn hdb)
 exact PyProof.Rows.callWith_type1 (bH (ha pos pins s σ H _ I h) fun us s1 ⟨vs,H1,I1,r1,q1⟩=>hc pins s1 σ H1 vs us Q I1 r1 q1) he hpl
end
section
variable {κ:Type} [DecidableEq κ]
def iG (kvs:List (κ × V))(k:κ):Option V:=(kvs.find? fun kv=>decide (kv.1=k)).map (·.2)
def eF (kvs:List (κ × V))(k:κ)(v:V):List (κ × V):=
 if (kvs.any fun kv=>decide (kv.1=k))=true then kvs.map (fun kv=>if kv.1=k then (kv.1,v) else kv) else kvs++[(k,v)]
theorem gH {p:κ × V}{r:List (κ × V)}{k:κ}(e:p.1=k):iG (p :: r) k=some p.2:=by simp [iG,List.find?_cons,e]
theorem eP {p:κ × V}{r:List (κ × V)}{k:κ}(e:¬ p.1=k):iG (p :: r) k=iG r k:=by simp [iG,List.find?_cons,e]
theorem ki (k:κ):∀ kvs:List (κ × V),(kvs.any fun kv=>decide (kv.1=k))=(iG kvs k).isSome
 | []=>rfl
 | p :: r=>by
   rw [List.any_cons]
   by_cases e:p.1=k
   ·simp only [gH e,decide_eq_true e,Bool.true_or,Option.isSome_some]
   ·rw [eP e,decide_eq_false e,Bool.false_or]; exact ki k r
theorem iS (kvs:List (κ × V))(k:κ)(v:V):(eF kvs k v).length≤kvs.length + 1:=by
 unfold eF
 split
 ·rw [List.length_map]; omega
 ·rw [List.length_append,List.length_cons,List.length_nil]; omega
theorem dt.isSome_eq {o:Option V}{u:Option Value}(r:dt o u):o.isSome=u.isSome:=by
 cases o with
 | none=>cases u with
   | none=>rfl
   | some _=>exact (show False from r).elim
 | some _=>cases u with
   | none=>exact (show False from r).elim
   | some _=>rfl
theorem dt.getD {o:Option V}{u:Option Value}{d:V}{d':Value}(r:dt o u)(rd:aE d d'):aE (o.getD d) (u.getD d'):=by
 cases o with
 | none=>cases u with
   | none=>exact rd
   | some _=>exact (show False from r).elim
 | some _=>cases u with
   | none=>exact (show False from r).elim
   | some _=>exact r
theorem KV.val {kvs:List (κ × V)}{vs:List (κ × Value)}(r:KV kvs vs)(k:κ):dt (iG kvs k) (valueAt vs k):=by
 unfold KV at r
 induction r with
 | nil=>exact True.intro
 | @cons p q ps qs h t ih =>
   obtain ⟨h1,h2⟩:=h
   by_cases e:p.1=k
   ·have e':q.1=k:=h1.symm.trans e
    have b:valueAt (q :: qs) k=some q.2:=by simp [valueAt,List.find?_cons,e']
    rw [gH e,b]; exact h2
   ·have e':¬ q.1=k:=fun z=>e (h1.trans z)
    have b:valueAt (q :: qs) k=valueAt qs k:=by simp [valueAt,List.find?_cons,e']
    rw [eP e,b]; exact ih
theorem KV.any {kvs:List (κ × V)}{vs:List (κ × Value)}(r:KV kvs vs)(k:κ):(kvs.any fun kv=>decide (kv.1=k))=vs.any fun kv=>decide (kv.1=k):=by
 unfold KV at r
 induction r with
 | nil=>rfl
 | cons h t ih=>rw [List.any_cons,List.any_cons,ih,h.1]
theorem KV.repl {kvs:List (κ × V)}{vs:List (κ × Value)}(r:KV kvs vs)(k:κ){y:V}{u:Value}(ry:aE y u):
 KV (kvs.map fun kv=>if kv.1=k then (kv.1,y) else kv) (vs.map fun kv=>if kv.1=k then (kv.1,u) else kv):=by
 unfold KV at r ⊢
 induction r with
 | nil=>exact .nil
 | @cons p q ps qs h t ih =>
   rw [List.map_cons,List.map_cons]
   refine .cons ?_ ih
   obtain ⟨h1,h2⟩:=h
   by_cases e:p.1=k
   ·rw [if_pos e,if_pos (h1.symm.trans e)]; exact ⟨h1,ry⟩
   ·rw [if_neg e,if_neg (fun z=>e (h1.trans z))]; exact ⟨h1,h2⟩
theorem KV.put {kvs:List (κ × V)}{vs:List (κ × Value)}(r:KV kvs vs)(k:κ){y:V}{u:Value}(ry:aE y u):KV (eF kvs k y) (stored vs k u):=by
 unfold eF stored
 rw [r.any k]
 by_cases e:(vs.any fun kv=>decide (kv.1=k))=true
 ·rw [if_pos e,if_pos e]; exact r.repl k ry
 ·rw [if_neg e,if_neg e]; exact Paired.snoc r ⟨rfl,ry⟩
theorem KV.length {kvs:List (κ × V)}{vs:List (κ × Value)}(r:KV kvs vs):kvs.length=vs.length:=Paired.length r
end
theorem pe {P:Program}{w:World}{k:Key}{u:Value}(r:aE (kV k) u):(bX P w).is k u=true:=by
 cases k with
 | inl i=>obtain ⟨t,e⟩:=(show ∃ t,u=Value.int i t from r); subst e; exact oK P w i t
 | inr x=>obtain ⟨t,e⟩:=(show ∃ t,u=Value.str x t from r); subst e; exact oP P w x t
theorem lE {P:Program}{w:World}:∀ {ks:List Key}{us:List Value},aG (ks.map kV) us->ItemsAre (bX P w) ks us
 | [],_,r=>by rw [List.map_nil] at r; cases r; exact .nil
 | k :: ks,_,r=>by
   rw [List.map_cons] at r
   cases r with
   | cons h t=>exact .cons (pe h) (lE t)
abbrev KT (H:Hp):List (List Key × V)->List (List Key × Addr × Value)->Prop:=Paired fun p q=>p.1=q.1∧H q.2.1=some (.tup (p.1.map kV))∧aE p.2 q.2.2
theorem KT.val {H:Hp}{kvs:List (List Key × V)}{xs:List (List Key × Addr × Value)}(r:KT H kvs xs)(k:List Key):dt (iG kvs k) ((atKey xs k).map (·.2)):=by
 induction r with
 | nil=>exact True.intro
 | @cons p q ps qs h t ih =>
   obtain ⟨h1,_,h2⟩:=h
   by_cases e:p.1=k
   ·have e':q.1=k:=h1.symm.trans e
    have b:atKey (q :: qs) k=some q.2:=by simp [atKey,List.find?_cons,e']
    rw [gH e,b]; exact h2
   ·have e':¬ q.1=k:=fun z=>e (h1.trans z)
    have b:atKey (q :: qs) k=atKey qs k:=by simp [atKey,List.find?_cons,e']
    rw [eP e,b]; exact ih
theorem KT.repl {H:Hp}{kvs:List (List Key × V)}{xs:List (List Key × Addr × Value)}(r:KT H kvs xs)(k:List Key){y:V}{u:Value}(ry:aE y u):
 KT H (kvs.map fun kv=>if kv.1=k then (kv.1,y) else kv) (xs.map (putAt k u)):=by
 induction r with
 | nil=>exact .nil
 | @cons p q ps qs h t ih =>
   rw [List.map_cons,List.map_cons]
   refine .cons ?_ ih
   obtain ⟨h1,h2,h3⟩:=h
   unfold putAt
   by_cases e:p.1=k
   ·rw [if_pos e,if_pos (h1.symm.trans e)]; exact ⟨h1,h2,ry⟩
   ·rw [if_neg e,if_neg (fun z=>e (h1.trans z))]; exact ⟨h1,h2,h3⟩
theorem KT.put {H:Hp}{kvs:List (List Key × V)}{xs:List (List Key × Addr × Value)}(r:KT H kvs xs)(k:List Key){b:Addr}{y:V}{u:Value}(hb:H b=some (.tup (k.map kV)))(ry:aE y u):
 KT H (eF kvs k y) (storedH xs k b u):=by
 have e:(kvs.any fun kv=>decide (kv.1=k))=(atKey xs k).isSome:=by
  rw [ki,(r.val k).isSome_eq,Option.isSome_map]
 unfold eF storedH
 rw [e]
 by_cases q:(atKey xs k).isSome=true
 ·rw [if_pos q,if_pos q]; exact r.repl k ry
 ·rw [if_neg q,if_neg q]; exact Paired.snoc r ⟨rfl,hb,ry⟩
theorem KT.keeps {H H':Hp}{kvs:List (List Key × V)}{xs:List (List Key × Addr × Value)}(r:KT H kvs xs)(ht:∀ b ys,H b=some (.tup ys)->H' b=some (.tup ys)):KT H' kvs xs :=
 Paired.mapP r fun _ _ z=>⟨z.1,ht _ _ z.2.1,z.2.2⟩
section
variable {P:Program}{w:World}{H:Hp}{h:Heap}{a:Addr}
theorem AO {u:HO}(ok:eK P w H h)(e:Rd H a u):bc P w H h a u:=e.ok ok
theorem kF {kvs:List (Key × V)}(ok:eK P w H h)(e:Rd H a (.dK kvs)):kvs.length≤sizeLine∧(a == sysModules)=false∧∃ vs,KV kvs vs∧h.DictOf (bX P w) a vs :=
 show bc P w H h a (.dK kvs) from AO ok e
theorem Dg {kvs:List (Key × V)}(ok:eK P w H h)(e:H a=some (.dK kvs)):kvs.length≤sizeLine∧(a == sysModules)=false∧∃ vs,KV kvs vs∧h.DictOf (bX P w) a vs:=kF ok (.inl e)
theorem jN {ks:List Key}(ok:eK P w H h)(e:H a=some (.tup (ks.map kV))):(tupleKind (bX P w)).is h ks a:=by
 obtain ⟨_,its,r,o,h1,h2,n,h3⟩:=(show bc P w H h a (.tup (ks.map kV)) from ok a _ e)
 exact ⟨o,its.toArray,n,h1,h2,h3,by simpa using lE r⟩
theorem lY {kvs:List (List Key × V)}(ok:eK P w H h)(e:Rd H a (.dT kvs)):kvs.length≤sizeLine∧(a == sysModules)=false ∧
 ∃ xs,KT H kvs xs∧h.DictOfH (tupleKind (bX P w)) a xs:=by
 obtain ⟨z,y,xs,r,o,es,ep,h1,h2,h3,h4,h5⟩:=(show bc P w H h a (.dT kvs) from AO ok e)
 refine ⟨z,y,xs,r,o,es,ep,h1,h2,h3,h4,fun x hx=>?_,h5⟩
 have all:∀ {l:List (List Key × V)}{m:List (List Key × Addr × Value)},KT H l m->∀ x∈m,(tupleKind (bX P w)).is h x.1 x.2.1:=by
  intro l m q
  induction q with
  | nil=>intro x hx; exact nomatch hx
  | @cons p q ps qs hq t ih =>
    intro x hx
    rcases List.mem_cons.mp hx with e | hx
    ·subst e
     exact jN ok (by rw [← hq.1]; exact hq.2.1)
    ·exact ih x hx
 exact all r x hx
theorem De {kvs:List (List Key × V)}(ok:eK P w H h)(e:H a=some (.dT kvs)):kvs.length≤sizeLine∧(a == sysModules)=false ∧
 ∃ xs,KT H kvs xs∧h.DictOfH (tupleKind (bX P w)) a xs:=lY ok (.inl e)
end
def iu (H:Hp)(a:Addr)(y:V)(r:Option V):Prop :=
 (∃ kvs k,Rd H a (.dK kvs)∧y=kV k∧r=iG kvs k)∨∃ kvs k b,Rd H a (.dT kvs)∧y = .ref b∧H b=some (.tup (k.map kV))∧r=iG kvs k
def pK (H:Hp)(a:Addr)(y v:V)(H':Hp):Prop :=
 (∃ kvs k,H a=some (.dK kvs)∧y=kV k∧kvs.length < sizeLine∧H'=upd H a (.dK (eF kvs k v))) ∨
 ∃ kvs k b,H a=some (.dT kvs)∧y = .ref b∧H b=some (.tup (k.map kV))∧kvs.length < sizeLine∧H'=upd H a (.dT (eF kvs k v))
theorem iu.t {H:Hp}{a b:Addr}{kvs:List (List Key × V)}{k:List Key}(e:H a=some (.dT kvs))(eb:H b=some (.tup (k.map kV))):iu H a (.ref b) (iG kvs k):=.inr ⟨kvs,k,b,.inl e,rfl,eb,rfl⟩
theorem pK.t {H:Hp}{a b:Addr}{kvs:List (List Key × V)}{k:List Key}{v:V}(e:H a=some (.dT kvs))(eb:H b=some (.tup (k.map kV)))(hl:kvs.length < sizeLine):
 pK H a (.ref b) v (upd H a (.dT (eF kvs k v))):=.inr ⟨kvs,k,b,e,rfl,eb,hl,rfl⟩
section
variable {X:Cx}{pins:List (Addr × Obj)}{σ:St}{H:Hp}{s:Shared}{a:Addr}{y v:V}{u r:Value}{o:Option V}{A:Around}{E:Value->Shared->Prop}
theorem Inv.big (I:Inv X pins σ H s):sysModules < s.heap.objs.size:=by
 have h:mainGlobals < s.heap.objs.size:=(I.mod.glob.keeps I.bk).lt
 exact Nat.lt_trans (by decide) h
theorem ua {Q:Value->Shared->Prop}(hu:A.units + 1 < cLine)(I:Inv X pins σ H s)(g:iu H a y (some v))(ry:aE y u)(h:∀ w' s',Inv X pins σ H s'->aE v w'->Q w' s'):
 wpAny (model X.prog X.w) A (getItem (.ref a) u) Q E s:=by
 rcases g with ⟨kvs,k,e,ey,l⟩ | ⟨kvs,k,b,e,ey,eb,l⟩
 ·subst ey
  obtain ⟨z,hd,vs,rel,dd⟩:=kF I.hok e
  obtain ⟨w',hw,rw'⟩:=dt.some_of (v:=v) (o:=valueAt vs k) (by rw [l]; exact rel.val k)
  exact wpAny_getItem_of (pe ry) dd.mapOf hw (h w' _ (I.tok _) rw')
 ·subst ey
  cases (show u=Value.ref b from ry)
  obtain ⟨z,hd,xs,rel,dd⟩:=lY I.hok e
  obtain ⟨w',hw,rw'⟩:=dt.some_of (v:=v) (o:=(atKey xs k).map (·.2)) (by rw [l]; exact rel.val k)
  obtain ⟨p,hp,hp2⟩:=Option.map_eq_some_iff.mp hw
  refine wpAny_getItem_heap (tupleKind_room_in1 hu) (jN I.hok eb) dd hp ?_
  rw [hp2]
  exact h w' _ (I.tok _) rw'
theorem Ea {Q:Value->Shared->Prop}(hu:A.units + 1 < cLine)(I:Inv X pins σ H s)(g:iu H a y o)(ry:aE y u)(h:∀ s',Inv X pins σ H s'->Q (.bool o.isSome) s'):
 wpAny (model X.prog X.w) A (compareOp .In u (.ref a)) Q E s:=by
 rcases g with ⟨kvs,k,e,ey,l⟩ | ⟨kvs,k,b,e,ey,eb,l⟩
 ·subst ey
  obtain ⟨z,hd,vs,rel,dd⟩:=kF I.hok e
  refine wpAny_in_of (pe ry) hd dd.mapOf ?_
  rw [← (rel.val k).isSome_eq,← l]
  exact h _ (I.tok _)
 ·subst ey
  cases (show u=Value.ref b from ry)
  obtain ⟨z,hd,xs,rel,dd⟩:=lY I.hok e
  refine wpAny_in_heap (tupleKind_room_in1 hu) (jN I.hok eb) hd dd ?_
  have q:=(rel.val k).isSome_eq
  rw [Option.isSome_map] at q
  rw [← q,← l]
  exact h _ (I.tok _)
theorem tP {h':Heap}{t':Nat}{ob:HO}(I:Inv X pins σ H s)(mu:C1 (H a))(hs:Heap.SameBut a s.heap h')(he:∃ q,h'.get? a=some q)(new:bc X.prog X.w (upd H a ob) h' a ob):
 Inv X pins σ (upd H a ob) { s with heap:=h',toks:=t' }:=
 I.write (x:=a) (e:=a) mu (.inl rfl) (fun b q hb z=>(hs.2 b hb).trans z) he new
theorem Cj {P:Program}{w:World}{H':Hp}{h':Heap}{kvs:List (Key × V)}{vs:List (Key × Value)}(z:kvs.length≤sizeLine)(hd:(a == sysModules)=false)(rel:KV kvs vs)(dd:h'.DictOf (bX P w) a vs):
 bc P w H' h' a (.dK kvs):=⟨z,hd,vs,rel,dd⟩
theorem u4 {H':Hp}{Q:Unit->Shared->Prop}(hu:A.units + 1 < cLine)(I:Inv X pins σ H s)(g:pK H a y v H')(ry:aE y u)(rv:aE v r)(h:∀ s',Inv X pins σ H' s'->Q () s'):
 wpAny (model X.prog X.w) A (setItem (.ref a) u r) Q E s:=by
 rcases g with ⟨kvs,k,e,ey,l,eH⟩ | ⟨kvs,k,b,e,ey,eb,l,eH⟩
 ·subst ey eH
  obtain ⟨z,hd,vs,rel,dd⟩:=Dg I.hok e
  have hz:vs.length≤sizeLine:=by rw [← rel.length]; exact z
  have hl:(eF kvs k v).length≤sizeLine:=by have:=iS kvs k v; omega
  refine wpAny_setItem_pairs (hsz:=hz) (pe ry) dd fun h' dd' hs=>h _ ?_
  have he:∃ q,h'.get? a=some q:=let ⟨q,_,_,hq,_⟩:=dd'; ⟨q,hq⟩
  exact tP I (by rw [e]; exact True.intro) hs he (Cj hl hd (rel.put k rv) dd')
 ·subst ey eH
  cases (show u=Value.ref b from ry)
  obtain ⟨z,hd,xs,rel,dd⟩:=De I.hok e
  have hz:xs.length≤sizeLine:=by rw [← Paired.length rel]; exact z
  have hl:(eF kvs k v).length≤sizeLine:=by have:=iS kvs k v; omega
  refine wpAny_setItem_heap (hsz:=hz) (tupleKind_room_in1 hu) (jN I.hok eb) dd fun h' dd' hs=>h _ ?_
  obtain ⟨q,es,ep,hq,h2,h3,h4,_,h5⟩:=dd'
  refine tP I (by rw [e]; exact True.intro) hs ⟨q,hq⟩ ⟨hl,hd,_,(rel.put k eb rv).keeps fun c ys ec=>?_,q,es,ep,hq,h2,h3,h4,h5⟩
  rw [aq (oV ec e (fun z=>nomatch z))]
  exact ec
end
def Du (i:Expr):Prop:=∀ ov iv,subscripted i false ov iv=operate [ov,iv] (getItem ov iv)
theorem yZ {prog:Program}{w:World}{A:Around}{E:Value->Shared->Prop}{s:Shared}{env:Env}{value slice:Expr}{pos:Pos}{T id:String}{Q:Value->Shared->Prop}
 (hl:typeLookup (.type T) "__getitem__"=pure (some (.builtin id)))(hs:Du slice)
 (h:wpAny (model prog w) A (eval value env) (fun o s₁=>wpAny (model prog w) A (eval slice env) (fun i s₂=>s₂.TypeIs o T∧wpAny (model prog w) A (getItem o i) Q E s₂) E s₁) E s):
 wpAny (model prog w) A (eval (.Subscript value slice pos) env) Q E s:=by
 refine Subscript_ (wpAny_mono h (fun o s₁ h₁=>wpAny_mono h₁ (fun i s₂ h₂=>?_) fun _ _ x=>x) fun _ _ x=>x)
 obtain ⟨hT,h₂⟩:=h₂
 unfold subscriptTail
 refine wpAny_bind ?_
 rw [getitemInPython_of_ne hT.not_modules]
 refine wpAny_bind (wpAny_specialOf hT hl ?_)
 have fin:wpAny (model prog w) A (subscripted slice false o i) (fun r s₃=>wpAny (model prog w) A (letTemporaryGo value o r >>= fun _=>pure r) Q E s₃) E s₂:=by
  rw [hs o i]
  exact wpAny_operating (wpAny_mono h₂ (fun r s₃ h₃=>wpAny_bind (wpAny_letTemporaryGo (wpAny_pure h₃))) fun _ _ x=>x)
 first
  | exact wpAny_pure (wpAny_bind fin)
  | exact wpAny_bind (wpAny_pure (wpAny_bind fin))
  | exact wpAny_bind fin
theorem oQ {X:Cx}{pins:List (Addr × Obj)}{σ:St}{H:Hp}{s:Shared}{a:Addr}{y:V}{o:Option V}(I:Inv X pins σ H s)(g:iu H a y o):s.TypeIs (.ref a) "dict":=by
 rcases g with ⟨kvs,k,e,_,_⟩ | ⟨kvs,k,b,e,_,_,_⟩
 ·obtain ⟨_,_,vs,_,dd⟩:=kF I.hok e
  exact dd.typeIs
 ·obtain ⟨_,_,xs,_,dd⟩:=lY I.hok e
  exact dd.typeIs
def Di (td ty:TE):TE:=fun σ H Q=>td σ H fun x H1=>ty σ H1 fun y H2=>∃ a v,x = .ref a∧iu H2 a y (some v)∧Q v H2
def EA (ty td:TE):TE:=fun σ H Q=>ty σ H fun y H1=>td σ H1 fun x H2=>∃ a o,x = .ref a∧iu H2 a y o∧Q (.bl o.isSome) H2
def CI (td ty tv:TE):TS:=fun D σ H=>tv σ H fun v H1=>td σ H1 fun x H2=>ty σ H2 fun y H3=>∃ a H4,x = .ref a∧pK H3 a y v H4∧D.nx σ H4
section
variable {X:Cx}{o i e value:Expr}{pos pos' tpos:Pos}{td ty tv:TE}
theorem ny (hu:X.A.units + 1 < cLine)(ho:PE X o td)(hi:PE X i ty)(hs:Du i):PE X (.Subscript o i pos) (Di td ty):=by
 intro pins s σ H Q I h
 refine yZ PySem.F.slot_dict_getitem.lookup hs (bH (ho pins s σ H _ I h) fun u s1 ⟨x,H1,I1,rx,q1⟩=>bH (hi pins s1 σ H1 _ I1 q1) fun iv s2 ⟨y,H2,I2,ry,a,v,ex,g,q2⟩=>?_)
 subst ex
 obtain rfl:u=Value.ref a:=rx
 exact ⟨oQ I2 g,ua hu I2 g ry fun w' s3 I3 rw'=>⟨v,H2,I3,rw',q2⟩⟩
theorem BC (hu:X.A.units + 1 < cLine)(hi:PE X i ty)(ho:PE X o td):PC X .In i o (EA ty td):=by
 intro pins s σ H Q I h
 refine bH (hi pins s σ H _ I h) fun iv s1 ⟨y,H1,I1,ry,q1⟩=>bH (ho pins s1 σ H1 _ I1 q1) fun u s2 ⟨x,H2,I2,rx,a,ov,ex,g,q2⟩=>?_
 subst ex
 obtain rfl:u=Value.ref a:=rx
 exact Ea hu I2 g ry fun s3 I3=>⟨.bl ov.isSome,H2,I3,rfl,q2⟩
theorem t9 (hu:X.A.units + 1 < cLine)(ho:PE X o td)(hi:PE X i ty)(hv:PE X value tv)(hs:swapsWith value (some (.Subscript o i pos')) pos.line X.env=pure false):
 PS X (.Assign [.Subscript o i pos'] value pos) (CI td ty tv):=by
 intro pins s σ H D I h
 refine wpAny_Assign_Subscript (bH (hv pins s σ H _ I h) fun r s1 ⟨v,H1,I1,rv,q1⟩=>bH (ho pins s1 σ H1 _ I1 q1) fun u s2 ⟨x,H2,I2,rx,q2⟩=>bH (hi pins s2 σ H2 _ I2 q2) fun iv s3 ⟨y,H3,I3,ry,a,H4,ex,g,q3⟩=>?_) hs
 subst ex
 obtain rfl:u=Value.ref a:=rx
 exact u4 hu I3 g ry rv fun s4 I4=>⟨σ,H4,I4,q3⟩
end
theorem xH {P:Program}{w:World}{H:Hp}(h:Heap)(hb:sysModules < h.objs.size):bc P w H (h.push { cls:=.type "dict",data:=.dict #[] }) h.objs.size (.dK []):=
 ⟨Nat.zero_le _,beq_eq_false_iff_ne.mpr (Ne.symm (Nat.ne_of_lt hb)),[],.nil,Heap.DictOf.new h⟩
theorem wo {P:Program}{w:World}{H:Hp}(h:Heap)(hb:sysModules < h.objs.size):bc P w H (h.push { cls:=.type "dict",data:=.dict #[] }) h.objs.size (.dT []):=
 ⟨Nat.zero_le _,beq_eq_false_iff_ne.mpr (Ne.symm (Nat.ne_of_lt hb)),[],.nil,_,#[],0,Heap.get?_push_size _ rfl,⟨rfl,rfl,rfl⟩,rfl,rfl,List.nodup_nil⟩
def tDNewK:TE:=fun _ H Q=>∀ p,H p=none->Q (.ref p) (upd H p (.dK []))
def tDNewT:TE:=fun _ H Q=>∀ p,H p=none->Q (.ref p) (upd H p (.dT []))
section
variable {X:Cx}{pos:Pos}
theorem oU:PE X (.Dict [] [] pos) tDNewK:=fun pins s σ H Q I h =>
 wpAny_Dict_empty ⟨.ref s.heap.objs.size,_,I.laid (a:=s.heap.objs.size) (o:=.dK []) (t':=s.toks) (fun _ _ q=>Heap.get?_push_of_some _ q) (Nat.le_refl _) (xH s.heap I.big),rfl,h _ (I.hok.fresh (Nat.le_refl _))⟩
theorem ow:PE X (.Dict [] [] pos) tDNewT:=fun pins s σ H Q I h =>
 wpAny_Dict_empty ⟨.ref s.heap.objs.size,_,I.laid (a:=s.heap.objs.size) (o:=.dT []) (t':=s.toks) (fun _ _ q=>Heap.get?_push_of_some _ q) (Nat.le_refl _) (wo s.heap I.big),rfl,h _ (I.hok.fresh (Nat.le_refl _))⟩
end
structure M2 (X:Cx)(o:Expr)(m:Str)(apos:Pos)(e f:Expr)(cpos:Pos):Prop where
 base:attributeBase o m X.env (eval o X.env)=eval o X.env
 few:((backTo cpos (starEach [e,f] X.env)).all (fun x=>!x.1)&&(backToKw cpos (keywordEach [] X.env)).all (fun x=>x.1.isSome)
  && decide (([e,f]:List Expr).length + ([]:List Keyword).length + (if ([]:List Keyword).isEmpty then 0 else 1) < 30))=true
 line:(apos.endLine == cpos.line)=true
 trees:backTo cpos (starEach [e,f] X.env)=[(false,eval e X.env),(false,eval f X.env)]
def EU (H:Hp)(a:Addr):Prop:=(∃ kvs,Rd H a (.dK kvs))∨∃ kvs,Rd H a (.dT kvs)
theorem BB {X:Cx}{pins:List (Addr × Obj)}{σ:St}{H:Hp}{s:Shared}{a:Addr}(I:Inv X pins σ H s)(d:EU H a):
 s.TypeIs (.ref a) "dict"∧(∀ b,Value.ref a = .ref b->∃ ob,s.heap.get? b=some ob∧ob.dict=none)∧(a == sysModules)=false:=by
 rcases d with ⟨kvs,e⟩ | ⟨kvs,e⟩
 ·obtain ⟨_,hd,vs,_,dd⟩:=kF I.hok e
  refine ⟨dd.typeIs,fun b q=>?_,hd⟩
  cases q
  obtain ⟨ob,_,_,h1,h2,_⟩:=dd
  exact ⟨ob,h1,h2.2.1⟩
 ·obtain ⟨_,hd,xs,_,dd⟩:=lY I.hok e
  refine ⟨dd.typeIs,fun b q=>?_,hd⟩
  cases q
  obtain ⟨ob,_,_,h1,h2,_⟩:=dd
  exact ⟨ob,h1,h2.2.1⟩
section
variable {X:Cx}{pins:List (Addr × Obj)}{σ:St}{H:Hp}{s:Shared}{a:Addr}{y d:V}{u r:Value}{o:Option V}{A:Around}{E:Value->Shared->Prop}
theorem Ba {Q:Value->Shared->Prop}(hu:A.units + 1 < cLine)(I:Inv X pins σ H s)(g:iu H a y o)(ry:aE y u)(rd:aE d r)(h:∀ w' s',Inv X pins σ H s'->aE (o.getD d) w'->Q w' s'):
 wpAny (model X.prog X.w) A (call (.builtin "dict.get") [.ref a,u,r]) Q E s:=by
 rcases g with ⟨kvs,k,e,ey,l⟩ | ⟨kvs,k,b,e,ey,eb,l⟩
 ·subst ey
  obtain ⟨z,hd,vs,rel,dd⟩:=kF I.hok e
  refine call_meetsIn PySem.F.slot_dict_get dd.typeIs PySem.F.entry_dict_get (PySem.F.args_dict_get_3 _ _ _) (meets_dict_get_default (bX X.prog X.w) a (pe ry) hd r) ⟨_,dd.mapOf,h _ _ (I.tok _) ?_⟩
  rw [l]
  exact (rel.val k).getD rd
 ·subst ey
  cases (show u=Value.ref b from ry)
  obtain ⟨z,hd,xs,rel,dd⟩:=lY I.hok e
  refine call_meetsIn PySem.F.slot_dict_get dd.typeIs PySem.F.entry_dict_get (PySem.F.args_dict_get_3 _ _ _) (meetsH_dict_get_default (tupleKind (bX X.prog X.w)) a b hd r) ⟨tupleKind_room_in1 hu,k,xs,jN I.hok eb,dd,h _ _ (I.tok _) ?_⟩
  rw [l]
  exact (rel.val k).getD rd
end
def Bl (td ty tx:TE):TE:=fun σ H Q=>td σ H fun x H1=>∃ a,x = .ref a∧EU H1 a∧ty σ H1 fun y H2=>tx σ H2 fun z H3=>∃ o,iu H3 a y o∧Q (o.getD z) H3
section
variable {X:Cx}{o e f:Expr}{apos cpos:Pos}{td ty tx:TE}
theorem xN (hu:X.A.units + 1 < cLine)(ho:PE X o td)(he:PE X e ty)(hf:PE X f tx)(m:M2 X o "get" apos e f cpos):PE X (.Call (.Attribute o "get" apos) [e,f] [] cpos) (Bl td ty tx):=by
 intro pins s σ H Q I h
 refine wpAny_Call_method m.base m.few m.line PySem.F.plainAttrs_dict PySem.F.slot_dict_get PySem.F.type_dict_get (bH (ho pins s σ H _ I h) fun u s1 ⟨x,H1,I1,rx,a,ex,d,q1⟩=>?_)
 subst ex
 obtain rfl:u=Value.ref a:=rx
 obtain ⟨t1,t2,_⟩:=BB I1 d
 refine ⟨t1,t2,?_⟩
 rw [m.trees]
 refine Calls.callWith_builtin rfl (Calls.evalArgs_plain (Calls.spliced_cons (bH (he pins s1 σ H1 _ I1 q1) fun iv s2 ⟨y,H2,I2,ry,q2⟩ =>
  Calls.spliced_cons (bH (hf pins s2 σ H2 _ I2 q2) fun fv s3 ⟨z,H3,I3,rz,ov,g,q3⟩=>Calls.spliced_nil ?_))))
 exact Ba hu I3 g ry rz fun w' s4 I4 rw'=>⟨_,H3,I4,rw',q3⟩
end
end L2
namespace HT
open PySem PyProof.Rows
def cD:List Int->List Int->Bool
 | [],[]=>false
 | [],_ :: _=>true
 | _ :: _,[]=>false
 | x :: xs,y :: ys=>if x=y then cD xs ys else decide (x < y)
theorem du (x y:Int)(xs ys:List Int):cD (x :: xs) (y :: ys)=if x=y then cD xs ys else decide (x < y):=rfl
theorem kX:cD [] []=false:=rfl
theorem jS (y:Int)(ys:List Int):cD [] (y :: ys)=true:=rfl
theorem jx (x:Int)(xs:List Int):cD (x :: xs) []=false:=rfl
theorem yz (A:Around)(s:Shared)(a:Int)(t:Tok)(c:Int)(u:Tok):∃ e,SeqAt.EqAt A s (.int a t) (.int c u) e∧(e=true ↔ a=c):=
 ⟨(a == c),SeqAt.EqAt.int_int a t c u,by simp⟩
theorem we (A:Around)(s:Shared)(a:Int)(t:Tok)(c:Int)(u:Tok)(prog:Program)(w:World)(E:Value->Shared->Prop)(Q:Value->Shared->Prop)(h:Q (.bool (decide (a < c))) s):
 wpAny (model prog w) A (richCompare .Lt (.int a t) (.int c u)) Q E s :=
 (PyProof.Rows.lt_int h:wpAny (model prog w) A (compareOp .Lt (.int a t) (.int c u)) Q E s)
section
open PySem.SeqAt
open PySem.AutoSeq1 (wpAny_loadPart')
open PySem.MeetsSeq PySem.MeetsSeq2 PySem.MeetsSeq3
theorem kK (l b:Addr)(items items2:Array Value)(n n2:Nat)(dd dd2:Option Addr)(sl sl2:Array (Option Value))(ns ms:List Int)(hi:IntsAre items.toList ns)(hj:IntsAre items2.toList ms):
 Meets (Builtin.«tuple.__lt__» ⟨[.ref l,.ref b],[]⟩)
  (fun _ R s=>s.heap.get? l=some { cls:=.type "tuple",dict:=dd,data:=.seq items n,slots:=sl }∧s.heap.get? b=some { cls:=.type "tuple",dict:=dd2,data:=.seq items2 n2,slots:=sl2 } ∧
   R (.ok (.ret (.bool (cD ns ms)))) s):=
 .of_wp fun prog w A R s h=>by
  obtain ⟨hp,g,d,tk,os⟩:=s; obtain ⟨hl,hb,h⟩:=h
  have f2:=AutoSeq1.sub_tuple_tuple
  have z1:items.size=ns.length:=by rw [← hi.length]; simp
  have z2:items2.size=ms.length:=by rw [← hj.length]; simp
  wp_walk using wpAny_loadPart' hl,wpAny_loadPart' hb,wpAny_forIn_list _ (fun rest b s'=>b.1=none∧s'=⟨hp,g,d,tk,os⟩∧∃ (vs ws:List Value)(ns' ms':List Int),rest=vs.zip ws ∧
   IntsAre vs ns'∧IntsAre ws ms'∧ns'.length + items2.size=ms'.length + items.size∧R (.ok (.ret (.bool (cD ns' ms')))) ⟨hp,g,d,tk,os⟩) _
  case turn =>
   rintro ⟨y,x⟩ rest b s' ⟨hb',rfl,vs,ws,ns',ms',hz,hvi,hwi,hlen,hR⟩
   cases hvi with
   | nil=>rw [List.zip_nil_left] at hz; cases hz
   | cons a t hvi' =>
     cases hwi with
     | nil=>rw [List.zip_nil_right] at hz; cases hz
     | cons c u hwi' =>
       rw [List.zip_cons_cons] at hz
       injection hz with hyx hrest
       injection hyx with hy hx
       subst hy hx
       rw [du] at hR
       simp only [List.length_cons] at hlen
       obtain ⟨e,he,hiff⟩:=yz A.in1 ⟨hp,g,d,tk,os⟩ a t c u
       refine wpAny_bind (he prog w _ _ ?_)
       cases e with
       | true =>
         rw [if_pos (hiff.mp rfl)] at hR
         wp_walk
         exact ⟨rfl,rfl,_,_,_,_,hrest,hvi',hwi',by omega,hR⟩
       | false =>
         rw [if_neg (fun q=>absurd (hiff.mpr q) Bool.false_ne_true)] at hR
         have hri:=we A.in1 ⟨hp,g,d,tk,os⟩ a t c u prog w
         wp_walk using hri
         exact ⟨_,rfl,by simpa using hR⟩
  case fin =>
   rintro ⟨b1,b2⟩ s' ⟨hb',rfl,vs,ws,ns',ms',hz,hvi,hwi,hlen,hR⟩
   simp only at hb'
   subst hb'
   have hv:cD ns' ms'=decide (items.size < items2.size):=by
    cases hvi with
    | nil =>
      cases hwi with
      | nil =>
        simp only [List.length_nil] at hlen
        rw [kX]
        exact (decide_eq_false (by omega)).symm
      | cons c u hw =>
        simp only [List.length_nil,List.length_cons] at hlen
        rw [jS]
        exact (decide_eq_true (by omega)).symm
    | cons a t hv =>
      cases hwi with
      | nil =>
        simp only [List.length_nil,List.length_cons] at hlen
        rw [jx]
        exact (decide_eq_false (by omega)).symm
      | cons c u hw =>
        rw [List.zip_cons_cons] at hz
        cases hz
   rw [hv] at hR
   wp_walk
   exact ⟨_,rfl,by simpa [Builtin.Tuple.tupleCompareSizes] using hR⟩
  case h =>
   exact ⟨rfl,rfl,items.toList,items2.toList,ns,ms,rfl,hi,hj,by omega,h⟩
end
section
variable {prog:Program}{w:World}{A:Around}{E:Value->Shared->Prop}{s:Shared}
theorem qc {l b:Addr}{items items2:Array Value}{ns ms:List Int}{Q:Value->Shared->Prop}(hl:IsTup s.heap l items)(hb:IsTup s.heap b items2)(hi:IntsAre items.toList ns)(hj:IntsAre items2.toList ms)
 (hu:A.units < cLine)(h:Q (.bool (cD ns ms)) s):wpAny (model prog w) A (compareOp .Lt (.ref l) (.ref b)) Q E s:=by
 obtain ⟨⟨cls,dd,data,sl⟩,ho,hc,n,hd⟩:=id hl
 obtain ⟨⟨cls2,dd2,data2,sl2⟩,ho2,hc2,n2,hd2⟩:=id hb
 simp only at hc hd hc2 hd2
 subst hc hd hc2 hd2
 exact richCompare_meets_room (op:=.Lt) ⟨_,ho,rfl⟩ ⟨_,ho2,rfl⟩ PySem.F.slot_tuple_lt PySem.F.entry_tuple_lt (PySem.F.args_tuple_lt_2 _ _) (kK l b items items2 n n2 dd dd2 sl sl2 ns ms hi hj)
  ⟨ho,ho2,show Value.bool (cD ns ms)≠Value.notImplemented∧Q (.bool (cD ns ms)) s from ⟨(fun x=>nomatch x),h⟩⟩ hu
theorem zH {t b:Addr}{vs ws:List Value}{Q:Value->Shared->Prop}(ht:IsTup s.heap t vs.toArray)(hb:IsTup s.heap b ws.toArray)(hv:vs≠[])
 (h1:ws=[]->Q (.ref t) s)(h2:ws≠[]->Q (.ref s.heap.objs.size) { s with heap:=s.heap.push { cls:=.type "tuple",data:=.seq (vs++ws).toArray } })
 (hsz:vs.length + ws.length≤sizeLine):wpAny (model prog w) A (binaryOp .Add (.ref t) (.ref b)) Q E s:=by
 obtain ⟨⟨cls,dd,data,sl⟩,ho,hc,n,hd⟩:=id ht
 obtain ⟨⟨cls2,dd2,data2,sl2⟩,ho2,hc2,n2,hd2⟩:=id hb
 simp only at hc hd hc2 hd2
 subst hc hd hc2 hd2
 have e:vs.toArray++ws.toArray=(vs++ws).toArray:=by simp
 by_cases hw:ws=[]
 ·exact concat_meets ⟨_,ho,rfl⟩ ⟨_,ho2,rfl⟩ noFill_tuple_add seq_tuple_add PySem.F.slot_tuple_add PySem.F.entry_tuple_add (PySem.F.args_tuple_add_2 _ _)
   (tuple_addW1 t b vs.toArray ws.toArray n n2 dd dd2 sl sl2 (by simpa using hv) (by simp [hw])) ⟨ho,ho2,h1 hw⟩
 ·refine concat_meets ⟨_,ho,rfl⟩ ⟨_,ho2,rfl⟩ noFill_tuple_add seq_tuple_add PySem.F.slot_tuple_add PySem.F.entry_tuple_add (PySem.F.args_tuple_add_2 _ _)
   (tuple_addW2 t b vs.toArray ws.toArray n n2 dd dd2 sl sl2 (by simpa using hv) (by simpa using hw) (by rw [List.size_toArray,List.size_toArray]; exact hsz)) ⟨ho,ho2,?_⟩
  rw [e]
  exact h2 hw
def dG (n d:Nat):Option Int->Nat
 | none=>d
 | some v=>if v < 0 then (v + (n:Int)).toNat else min v.toNat n
theorem BD (n d:Nat)(hd:d≤n)(o:Option Int):dG n d o≤n:=by
 cases o with
 | none=>exact hd
 | some v =>
   show (if v < 0 then (v + (n:Int)).toNat else min v.toNat n)≤n
   by_cases hv:v < 0
   ·rw [if_pos hv]; omega
   ·rw [if_neg hv]; exact Nat.min_le_right _ _
theorem rO (v:Int)(n d:Nat):(if v < 0 then max (v + (n:Int)) 0 else min v (n:Int))=((dG n d (some v):Nat):Int):=by
 show (if v < 0 then max (v + (n:Int)) 0 else min v (n:Int))=(((if v < 0 then (v + (n:Int)).toNat else min v.toNat n):Nat):Int)
 by_cases hv:v < 0
 ·simp only [if_pos hv]; omega
 ·simp only [if_neg hv]; omega
theorem qy (lo hi:Option Int)(n:Nat):Builtin.Slice.sliceAdjust lo hi 1 (n:Int)=(((dG n 0 lo:Nat):Int),((dG n n hi:Nat):Int)):=by
 have h1:¬ ((1:Int) < 0):=by omega
 unfold Builtin.Slice.sliceAdjust
 simp only [h1,if_false]
 refine Prod.ext ?_ ?_
 ·cases lo with
  | none=>rfl
  | some v=>exact rO v n 0
 ·cases hi with
  | none=>rfl
  | some v=>exact rO v n n
theorem qi (i j:Nat):Builtin.Slice.slicePlaces (i:Int) (j:Int) 1=j - i:=by
 unfold Builtin.Slice.slicePlaces
 have h1:(1:Int) > 0:=by omega
 simp only [h1,if_true,Int.ediv_one]
 split <;> omega
theorem jV {v:Value}{o:Option Int}{Q:Option Int->Shared->Prop}(p:IsPart v o)(h:Q o s):wpAny (model prog w) A (Builtin.Slice.slicePartIndex v) Q E s:=by
 cases p with
 | none=>exact slicePart_none h
 | int i t=>exact slicePart_int h
theorem eu {sl:Addr}{vl vu:Value}{lo hi:Option Int}{n:Nat}{Q:Int × Int × Nat->Shared->Prop}(hs:s.heap.IsSliceOf sl vl vu .none)(pl:IsPart vl lo)(pu:IsPart vu hi)
 (h:Q (((dG n 0 lo:Nat):Int),1,dG n n hi - dG n 0 lo) s):wpAny (model prog w) A (Builtin.Slice.sliceApplied (.ref sl) (pure (n:Int))) Q E s:=by
 obtain ⟨os,hos,hcs,hds⟩:=id hs
 unfold Builtin.Slice.sliceApplied Builtin.Slice.sliceFields
 refine wpAny_bind (wpAny_bind (wpAny_field hos hds (x:=vl) rfl (wpAny_bind (wpAny_field hos hds (x:=vu) rfl (wpAny_bind (wpAny_field hos hds (x:=.none) rfl (wpAny_pure ?_)))))))
 refine wpAny_bind (slicePart_none ?_)
 show wpAny _ _ (if ((1:Int) == 0)=true then _ else _) _ _ s
 rw [if_neg (by decide)]
 refine wpAny_bind (jV pl (wpAny_bind (jV pu (wpAny_bind (wpAny_pure ?_)))))
 show wpAny _ _ (match Builtin.Slice.sliceAdjust lo hi 1 (n:Int) with | (lo,hi)=>pure (lo,(1:Int),Builtin.Slice.slicePlaces lo hi 1)) _ _ s
 rw [qy lo hi n]
 show wpAny _ _ (pure (((dG n 0 lo:Nat):Int),(1:Int),Builtin.Slice.slicePlaces ((dG n 0 lo:Nat):Int) ((dG n n hi:Nat):Int) 1)) _ _ s
 rw [qi]
 exact wpAny_pure h
theorem xU (xs:Array Value)(i k:Nat):((List.range k).filterMap fun (m:Nat)=>xs[((i:Int) + (m:Int) * 1).toNat]?).toArray=((xs.toList.drop i).take k).toArray:=by
 have e:(fun (m:Nat)=>xs[((i:Int) + (m:Int) * 1).toNat]?)=fun m=>xs[i + m]?:=by
  funext m
  have:((i:Int) + (m:Int) * 1).toNat=i + m:=by omega
  rw [this]
 rw [e]
 have:=pick_run xs i k
 rw [List.filterMap_map] at this
 have e2:((fun x=>xs[x]?) ∘ fun x=>i + x)=fun m=>xs[i + m]?:=rfl
 rw [e2] at this
 rw [this]
theorem gZ {t sl:Addr}{items:Array Value}{vl vu:Value}{lo hi:Option Int}{Q:Value->Shared->Prop}(ht:IsTup s.heap t items)(hs:s.heap.IsSliceOf sl vl vu .none)(pl:IsPart vl lo)(pu:IsPart vu hi)
 (hw:¬ (dG items.size 0 lo=0∧dG items.size items.size hi=items.size))
 (h:Q (.ref s.heap.objs.size) { s with heap:=s.heap.push { cls:=.type "tuple",data:=.seq ((items.toList.drop (dG items.size 0 lo)).take (dG items.size items.size hi - dG items.size 0 lo)).toArray } })
 (hsz:items.size≤sizeLine):wpAny (model prog w) A (getItem (.ref t) (.ref sl)) Q E s:=by
 have htake:sizeOk (.seq ((items.toList.drop (dG items.size 0 lo)).take (dG items.size items.size hi - dG items.size 0 lo)).toArray):=by
  show ((items.toList.drop (dG items.size 0 lo)).take (dG items.size items.size hi - dG items.size 0 lo)).toArray.size≤sizeLine
  rw [List.size_toArray,List.length_take,List.length_drop,Array.length_toList]
  omega
 have hj:dG items.size items.size hi≤items.size:=BD _ _ (Nat.le_refl _) hi
 obtain ⟨os,hos,hcs,hds⟩:=id hs
 have hTs:s.TypeIs (.ref sl) "slice":=⟨os,hos,hcs⟩
 unfold getItem
 try with_reducible refine wpAny_holding ?_
 first | refine wpAny_bind (wpAny_pure ?_) | skip
 refine wpAny_bind (wpAny_sequenceKey ht.typeIs (by decide) ?_)
 refine wpAny_bind (wpAny_callSpecial?_slot (name:=Str.ofString "__getitem__") ht.typeIs PyProof.Rows.slot_tuple_getitem
  (wpAny_call_entry PyProof.Rows.slot_tuple_getitem ht.typeIs entry_tuple_getitem ?_ (args_tuple_getitem _ _)))
 show wpAny _ _ (Builtin.Tuple.tupleItemsOf (.ref t) >>= _) _ _ s
 refine wpAny_bind (tupleItemsOf_ ht ?_)
 refine wpAny_bind (wpAny_typeOf hTs ?_)
 rw [if_pos (by decide)]
 refine wpAny_bind (eu hs pl pu ?_)
 have hno:¬ ((((dG items.size 0 lo:Nat):Int) == 0&&(1:Int) == 1&&(dG items.size items.size hi - dG items.size 0 lo) == items.size)=true):=by
  intro q
  rw [Bool.and_eq_true,Bool.and_eq_true] at q
  have q1:((dG items.size 0 lo:Nat):Int)=0:=eq_of_beq q.1.1
  have q2:dG items.size items.size hi - dG items.size 0 lo=items.size:=eq_of_beq q.2
  exact hw ⟨by omega,by omega⟩
 show wpAny _ _ (if (((dG items.size 0 lo:Nat):Int) == 0&&(1:Int) == 1&&(dG items.size items.size hi - dG items.size 0 lo) == items.size)=true then _ else _) _ _ s
 rw [if_neg hno,xU]
 first
  | exact wpAny_bind (m:=Builtin.Tuple.tupleExact _) (wpAny_newObj_type (wpAny_pure ⟨_,rfl,wpAny_pure h⟩) htake)
  | exact wpAny_bind (m:=Builtin.Tuple.tupleExact _) (wpAny_newObj_type (wpAny_bind (wpAny_pure (wpAny_pure ⟨_,rfl,wpAny_pure h⟩))) htake)
  | exact wpAny_bind (wpAny_bind (m:=Builtin.Tuple.tupleExact _) (wpAny_newObj_type (wpAny_pure (wpAny_pure ⟨_,rfl,wpAny_pure h⟩)) htake))
  | exact wpAny_bind (wpAny_bind (m:=Builtin.Tuple.tupleExact _) (wpAny_newObj_type (wpAny_pure ⟨_,rfl,wpAny_pure h⟩) htake))
end
end HT
namespace L2
open PySem PySem.Spec PyProof.Rows
abbrev TO:=St->Hp->(Option Int->Hp->Prop)->Prop
def PO (X:Cx)(e:Option Expr)(t:TO):Prop :=
 ∀ (pins:List (Addr × Obj))(s:Shared)(σ:St)(H:Hp)(Q:Option Int->Hp->Prop),Inv X pins σ H s->t σ H Q →
   wpAny (model X.prog X.w) X.A (evalPart e X.env) (fun u s'=>∃ o H',Inv X pins σ H' s'∧IsPart u o∧Q o H') X.xe s
def tNoPart:TO:=fun _ H Q=>Q none H
def C2 (t:TE):TO:=fun σ H Q=>t σ H fun x H1=>∃ i,x = .int i∧Q (some i) H1
theorem km {ns:List Int}:∀ {us:List Value},aG (ns.map V.int) us->IntsAre us ns:=by
 induction ns with
 | nil=>intro us r; rw [List.map_nil] at r; cases r; exact .nil
 | cons n ns ih =>
   intro us r
   rw [List.map_cons] at r
   cases r with
   | cons r1 r2 =>
     obtain ⟨t,e⟩:=r1
     subst e
     exact .cons n t (ih r2)
section
variable {X:Cx}{e:Expr}{te:TE}{lo hi:Option Expr}{tl th:TO}{pos p2:Pos}
theorem zJ:PO X none tNoPart:=by
 intro pins s σ H Q I h
 rw [evalPart_none]
 exact wpAny_pure ⟨none,H,I,.none,h⟩
theorem zo (h:PE X e te):PO X (some e) (C2 te):=by
 intro pins s σ H Q I hw
 rw [evalPart_some]
 refine bH (h pins s σ H _ I hw) fun u s1 ⟨x,H1,I1,r1,q1⟩=>?_
 obtain ⟨i,rfl,q⟩:=q1
 obtain ⟨t,rfl⟩:=r1
 exact ⟨some i,H1,I1,.int i t,q⟩
def Ee (X:Cx)(r:V->Option Int->Option Int->Hp->VK->Prop):Prop :=
 ∀ (pins:List (Addr × Obj))(s:Shared)(σ:St)(H:Hp)(x:V)(v vl vu:Value)(lo hi:Option Int)(sl:Addr)(Q:VK),Inv X pins σ H s->aE x v->s.heap.IsSliceOf sl vl vu .none->IsPart vl lo->IsPart vu hi->r x lo hi H Q →
   ∃ T id,typeLookup (.type T) "__getitem__"=pure (some (.builtin id))∧s.TypeIs v T∧wpAny (model X.prog X.w) X.A (getItem v (.ref sl)) (EP X pins σ Q) X.xe s
def E7 (r:V->Option Int->Option Int->Hp->VK->Prop)(te:TE)(tl th:TO):TE:=fun σ H Q=>te σ H fun x H1=>tl σ H1 fun l H2=>th σ H2 fun u H3=>r x l u H3 Q
theorem yb {r:V->Option Int->Option Int->Hp->VK->Prop}(hr:Ee X r)(he:PE X e te)(hl:PO X lo tl)(hu:PO X hi th):PE X (.Subscript e (.Slice lo hi none p2) pos) (E7 r te tl th):=by
 intro pins s σ H Q I h
 refine Subscript_ (bH (he pins s σ H _ I h) fun v s1 ⟨x,H1,I1,r1,q1⟩=>?_)
 refine wpAny_Slice (bH (hl pins s1 σ H1 _ I1 q1) fun vl s2 ⟨l,H2,I2,pl,q2⟩=>bH (hu pins s2 σ H2 _ I2 q2) fun vu s3 ⟨u,H3,I3,pu,q3⟩=>?_)
 rw [evalPart_none]
 refine wpAny_pure ?_
 have I4:Inv X pins σ H3 { s3 with heap:=s3.heap.push { cls:=.type "slice",data:=.fields #[vl,vu,.none] } }:=I3.kept (t':=s3.toks) fun b ob q=>Heap.get?_push_of_some _ q
 obtain ⟨T,id,hT,ht,hg⟩:=hr pins { s3 with heap:=s3.heap.push { cls:=.type "slice",data:=.fields #[vl,vu,.none] } } σ H3 x v vl vu l u s3.heap.objs.size Q I4 r1 (Heap.IsSliceOf.new ..) pl pu q3
 show wpAny (model X.prog X.w) X.A (subscriptTail e (.Slice lo hi none p2) v (.ref s3.heap.objs.size)) (EP X pins σ Q) X.xe { s3 with heap:=s3.heap.push { cls:=.type "slice",data:=.fields #[vl,vu,.none] } }
 exact tail_any (ops:=[.ref s3.heap.objs.size,v]) ht hT hg (by with_unfolding_all rfl)
def mM (xs:List V)(lo hi:Option Int):List V:=(xs.drop (HT.dG xs.length 0 lo)).take (HT.dG xs.length xs.length hi - HT.dG xs.length 0 lo)
theorem oH (xs:List V)(lo hi:Option Int):(mM xs lo hi).length≤xs.length:=by
 unfold mM
 rw [List.length_take,List.length_drop]
 omega
def Eo (K:PySem.W.Frag):V->Option Int->Option Int->Hp->VK->Prop:=fun x lo hi H Q=>∃ a xs,x = .ref a∧bf K H a xs ∧
 ¬ (HT.dG xs.length 0 lo=0∧HT.dG xs.length xs.length hi=xs.length)∧∀ p,H p=none->Q (.ref p) (upd H p (.tup (mM xs lo hi)))
theorem A6:Ee X (Eo X.K):=by
 intro pins s σ H x v vl vu lo hi sl Q I rx hs pl pu h
 obtain ⟨a,xs,rfl,hx,hw,q⟩:=h
 cases rx
 obtain ⟨its,r,ht,hz⟩:=I.tuple hx
 have hlen:its.toArray.size=xs.length:=by rw [List.size_toArray]; exact r.length.symm
 refine ⟨"tuple",_,PyProof.Rows.slot_tuple_getitem.lookup,ht.typeIs,?_⟩
 refine HT.gZ ht hs pl pu (by rw [hlen]; exact hw) ?_ (by rw [hlen]; exact hz)
 rw [hlen]
 refine ⟨.ref s.heap.objs.size,_,I.laid (t':=s.toks) (o:=.tup (mM xs lo hi)) (fun b ob q=>Heap.get?_push_of_some _ q) (Nat.le_refl _) ?_,rfl,q _ (I.hok.fresh (Nat.le_refl _))⟩
 exact ⟨Nat.le_trans (oH xs lo hi) hz,_,(r.drop (HT.dG xs.length 0 lo)).take (HT.dG xs.length xs.length hi - HT.dG xs.length 0 lo),IsTup.new _ _⟩
def CJ (K:PySem.W.Frag):R2:=fun x y H Q=>∃ a b xs ys,x = .ref a∧y = .ref b∧bf K H a xs∧bf K H b ys∧xs≠[]∧xs.length + ys.length≤sizeLine ∧
 (ys=[]->Q (.ref a) H)∧(ys≠[]->∀ p,H p=none->Q (.ref p) (upd H p (.tup (xs++ys))))
theorem aG.nil_iff {xs:List V}{us:List Value}(r:aG xs us):us=[] ↔ xs=[]:=by
 cases r with
 | nil=>simp
 | cons _ _=>simp
theorem zR:eM X (binaryOp .Add) (CJ X.K):=by
 intro pins s σ H x y v u Q I rx ry h
 obtain ⟨a,b,xs,ys,rfl,rfl,ha,hb,hx,hz,q1,q2⟩:=h
 cases rx
 cases ry
 obtain ⟨its,r1,p1,_⟩:=I.tuple ha
 obtain ⟨its2,r2,p2,_⟩:=I.tuple hb
 refine HT.zH p1 p2 (fun z=>hx (r1.nil_iff.mp z)) (fun z=>⟨.ref a,H,I,rfl,q1 (r2.nil_iff.mp z)⟩) (fun z=>?_) (by rw [← r1.length,← r2.length]; exact hz)
 refine ⟨.ref s.heap.objs.size,_,I.laid (t':=s.toks) (o:=.tup (xs++ys)) (fun b ob q=>Heap.get?_push_of_some _ q) (Nat.le_refl _) ?_,rfl,q2 (fun w=>z (r2.nil_iff.mpr w)) _ (I.hok.fresh (Nat.le_refl _))⟩
 exact ⟨by rw [List.length_append]; exact hz,_,r1.append r2,IsTup.new _ _⟩
end
def vL (n:Nat)(i:Int):Option Nat:=if 0≤i then (if i < n then some i.toNat else none) else if -(n:Int)≤i then some (i + n).toNat else none
def qa {α:Type}(xs:List α)(i:Int):Option α:=(vL xs.length i).bind fun j=>xs[j]?
theorem rF {n:Nat}{i:Int}{j:Nat}(h:vL n i=some j):seqIndex? i n=some j∧j < n∧-(n:Int)≤i∧i < n:=by
 unfold vL at h
 by_cases h0:0≤i
 ·rw [if_pos h0] at h
  by_cases h1:i < n
  ·rw [if_pos h1] at h
   have e:i.toNat=j:=Option.some.inj h
   exact ⟨by rw [seqIndex_of h0 h1,e],by omega,by omega,h1⟩
  ·rw [if_neg h1] at h; cases h
 ·rw [if_neg h0] at h
  by_cases h1:-(n:Int)≤i
  ·rw [if_pos h1] at h
   have e:(i + n).toNat=j:=Option.some.inj h
   exact ⟨by rw [seqIndex_neg (by omega) h1,e],by omega,h1,by omega⟩
  ·rw [if_neg h1] at h; cases h
theorem rY {α:Type}{xs:List α}{i:Int}{v:α}(h:qa xs i=some v):∃ j,seqIndex? i xs.length=some j∧xs[j]?=some v∧j < xs.length∧-(xs.length:Int)≤i∧i < xs.length:=by
 unfold qa at h
 cases e:vL xs.length i with
 | none=>rw [e] at h; cases h
 | some j =>
   rw [e] at h
   obtain ⟨h1,h2,h3,h4⟩:=rF e
   exact ⟨j,h1,h,h2,h3,h4⟩
theorem ji {α:Type}{xs:List α}{j:Nat}{v:α}(h:xs[j]?=some v):qa xs (j:Int)=some v:=by
 have hj:j < xs.length:=(List.getElem?_eq_some_iff.mp h).1
 have e:vL xs.length (j:Int)=some j:=by
  unfold vL
  rw [if_pos (by omega),if_pos (by omega)]; simp
 unfold qa; rw [e]; exact h
def y7 (b:Expr):Prop:=∀ o i,subscripted b false o i=operate [o,i] (getItem o i)
def DF (X:Cx)(r:R2):Prop :=
 ∀ (value slice:Expr)(pins:List (Addr × Obj))(s:Shared)(σ:St)(H:Hp)(x y:V)(v u:Value)(Q:VK),Inv X pins σ H s->aE x v->aE y u->r x y H Q →
   subscripted slice false v u=operate [v,u] (getItem v u)->wpAny (model X.prog X.w) X.A (subscriptTail value slice v u) (EP X pins σ Q) X.xe s
def EO (X:Cx)(id:String)(r:V->List V->Hp->VK->Prop):Prop :=
 ∀ (pins:List (Addr × Obj))(s:Shared)(σ:St)(H:Hp)(x:V)(xs:List V)(v:Value)(us:List Value)(Q:VK),Inv X pins σ H s->aE x v->aG xs us->r x xs H Q →
   wpAny (model X.prog X.w) X.A (call (.builtin id) (v :: us)) (EP X pins σ Q) X.xe s
section
variable {X:Cx}{a b:Expr}{ta tb:TE}{pos:Pos}
theorem aQ {r:R2}(hr:DF X r)(ha:PE X a ta)(hb:PE X b tb)(hs:y7 b):PE X (.Subscript a b pos) (mJ r ta tb):=by
 intro pins s σ H Q I h
 exact Subscript_ (Bg ha hb I h fun v u s2 x y H2 I2 rx ry q=>hr a b pins s2 σ H2 x y v u Q I2 rx ry q (hs _ _))
def Dl (K:PySem.W.Frag):R2:=fun x y H Q=>∃ p xs i v,x = .ref p∧y = .int i∧br K H p xs∧qa xs i=some v∧Q v H
def yO (K:PySem.W.Frag):R2:=fun x y H Q=>∃ p xs i v,x = .ref p∧y = .int i∧bf K H p xs∧qa xs i=some v∧Q v H
theorem bA:DF X (Dl X.K):=by
 intro value slice pins s σ H x y v u Q I rx ry h hs
 obtain ⟨p,xs,i,z,rfl,rfl,hq,he,q⟩:=h
 cases rx
 obtain ⟨t,rfl⟩:=ry
 obtain ⟨its,r,pl,hz⟩:=I.list hq
 obtain ⟨j,h1,h2,h3,h4,h5⟩:=rY he
 obtain ⟨w,ew,rw'⟩:=r.get h2
 have hl:=r.length
 have hn:=jE
 have fin:EP X pins σ Q w s:=⟨z,H,I,rw',q⟩
 by_cases h0:0≤i
 ·have hj:i.toNat=j:=by
   rw [seqIndex_of h0 h5] at h1
   exact Option.some.inj h1
  exact item_listR pl.isList h0 (by omega) (by rw [hj]; simpa using ew) fin hs
 ·have hj:(i + (its.toArray.size:Int)).toNat=j:=by
   rw [seqIndex_neg (by omega) h4] at h1
   rw [List.size_toArray,← hl]
   exact Option.some.inj h1
  exact subscriptTail_builtinR (x:=w) pl.isList.typeIs slot_list_getitem.lookup
   (wpAny_getItem_list_neg (Q:=fun r s'=>r=w∧EP X pins σ Q r s') pl.isList (by omega) (by rw [List.size_toArray] <;> omega) (by omega) (by rw [hj]; simpa using ew) ⟨rfl,fin⟩) hs
theorem aY:DF X (yO X.K):=by
 intro value slice pins s σ H x y v u Q I rx ry h hs
 obtain ⟨p,xs,i,z,rfl,rfl,hq,he,q⟩:=h
 cases rx
 obtain ⟨t,rfl⟩:=ry
 obtain ⟨its,r,pl,hz⟩:=I.tuple hq
 obtain ⟨j,h1,h2,h3,h4,h5⟩:=rY he
 obtain ⟨w,ew,rw'⟩:=r.get h2
 have hl:=r.length
 have hn:=jE
 have fin:EP X pins σ Q w s:=⟨z,H,I,rw',q⟩
 exact subscriptTail_builtinR (x:=w) pl.typeIs slot_tuple_getitem.lookup
  (getItem_tuple (j:=j) (Q:=fun r s'=>r=w∧EP X pins σ Q r s') pl (by omega) (by omega) (by rw [List.size_toArray,← hl]; exact h1) (by simpa using ew) ⟨rfl,fin⟩) hs
theorem qC (its:List Value)(n j:Nat)(u:Value):Obj.mapSeq (·.setIfInBounds j u) { cls:=.type "list",data:=.seq its.toArray n }={ cls:=.type "list",data:=.seq (its.set j u).toArray n }:=by
 simp [Obj.mapSeq]
theorem Inv.lst {pins:List (Addr × Obj)}{σ:St}{H:Hp}{s:Shared}{p:Addr}{xs:List V}(I:Inv X pins σ H s)(h:H p=some (.lst xs)):
 ∃ (its:List Value)(n:Nat),aG xs its∧s.heap.get? p=some { cls:=.type "list",data:=.seq its.toArray n }∧xs.length≤sizeLine:=by
 obtain ⟨z,its,n,r,e⟩:=I.hok p _ h
 exact ⟨its,n,r,e,z⟩
theorem Inv.lstUpd {pins:List (Addr × Obj)}{σ:St}{H:Hp}{s:Shared}{p:Addr}{xs ys:List V}{its its':List Value}{n n':Nat}{f:Obj->Obj}(I:Inv X pins σ H s)(h:H p=some (.lst xs))
 (ho:s.heap.get? p=some { cls:=.type "list",data:=.seq its.toArray n })(hf:f { cls:=.type "list",data:=.seq its.toArray n }={ cls:=.type "list",data:=.seq its'.toArray n' })(r:aG ys its')(hz:ys.length≤sizeLine)(t:Nat):
 Inv X pins σ (upd H p (.lst ys)) { s with heap:=s.heap.update p f,toks:=t }:=by
 have e:(s.heap.update p f).get? p=some { cls:=.type "list",data:=.seq its'.toArray n' }:=by
  rw [Heap.get?_update_self f ho (by rw [hf] <;> rfl),hf]
 refine I.write (x:=p) (e:=p) (by rw [h]; trivial) (.inl rfl) (fun b u hb q=>(Heap.get?_update_other _ _ (Ne.symm hb)).trans q) ⟨_,e⟩ ?_
 exact ⟨hz,its',n',r,e⟩
def rSetL:V->V->V->Hp->(Hp->Prop)->Prop:=fun o i v H Q=>∃ p xs k j,o = .ref p∧i = .int k∧H p=some (.lst xs)∧vL xs.length k=some j∧Q (upd H p (.lst (xs.set j v)))
theorem gU:CS X rSetL:=by
 intro pins s σ H o i v ov iv u Q I ro ri rv h
 obtain ⟨p,xs,k,j,rfl,rfl,hp,hj,q⟩:=h
 cases ro
 obtain ⟨t,rfl⟩:=ri
 obtain ⟨its,n,r,ho,hz⟩:=I.lst hp
 obtain ⟨h1,h2,h3,h4⟩:=rF hj
 have hl:=r.length
 have hn:=jE
 have I':Inv X pins σ (upd H p (.lst (xs.set j v))) { s with heap:=s.heap.update p (Obj.mapSeq (·.setIfInBounds j u)) }:=
  I.lstUpd hp ho (qC its n j u) (r.set rv j) (by rw [List.length_set]; exact hz) s.toks
 by_cases h0:0≤k
 ·have hk:k.toNat=j:=by
   rw [seqIndex_of h0 h4] at h1
   exact Option.some.inj h1
  exact PySem.W.ki_setAt ho h0 (by omega) (by rw [List.size_toArray,← hl]; exact h4) (by rw [hk]; exact ⟨_,I',q⟩)
 ·have hk:(k + (its.toArray.size:Int)).toNat=j:=by
   rw [seqIndex_neg (by omega) h3] at h1
   rw [List.size_toArray,← hl]
   exact Option.some.inj h1
  exact PySem.W.ki_setBack ho (by omega) (by rw [List.size_toArray,← hl]; exact h3) (by omega) (by rw [hk]; exact ⟨_,I',q⟩)
def iT:V->Bool
 | .non=>true
 | .bl _=>true
 | .int _=>true
 | .str _=>true
 | _=>false
def AD:V->V->Bool
 | .non,.non=>true
 | .bl a,.bl b=>a == b
 | .bl a,.int b=>(if a then 1 else 0) == b
 | .int a,.bl b=>a == (if b then 1 else 0)
 | .int a,.int b=>a == b
 | .str a,.str b=>a == b
 | _,_=>false
theorem BN {A:Around}{s:Shared}{y x:V}{u v:Value}(ry:aE y u)(rx:aE x v)(fy:iT y=true)(fx:iT x=true):SeqAt.EqAt A s u v (AD y x):=by
 cases y with
 | non =>
   cases ry
   cases x with
   | non=>cases rx; exact SeqAt.EqAt.same _
   | bl b=>cases rx; exact SeqAt.EqAt.none_bool b
   | int b=>obtain ⟨t,rfl⟩:=rx; exact SeqAt.EqAt.none_int b t
   | str b=>obtain ⟨t,rfl⟩:=rx; exact SeqAt.EqAt.none_str b t
   | _=>exact absurd (show false=true from fx) Bool.false_ne_true
 | bl a =>
   cases ry
   cases x with
   | non=>cases rx; exact SeqAt.EqAt.bool_none a
   | bl b=>cases rx; exact SeqAt.EqAt.bool_bool a b
   | int b=>obtain ⟨t,rfl⟩:=rx; exact SeqAt.EqAt.bool_int a b t
   | str b=>obtain ⟨t,rfl⟩:=rx; exact SeqAt.EqAt.bool_str a b t
   | _=>exact absurd (show false=true from fx) Bool.false_ne_true
 | int a =>
   obtain ⟨t',rfl⟩:=ry
   cases x with
   | non=>cases rx; exact SeqAt.EqAt.int_none a t'
   | bl b=>cases rx; exact SeqAt.EqAt.int_bool a t' b
   | int b=>obtain ⟨t,rfl⟩:=rx; exact SeqAt.EqAt.int_int a t' b t
   | str b=>obtain ⟨t,rfl⟩:=rx; exact SeqAt.EqAt.int_str a t' b t
   | _=>exact absurd (show false=true from fx) Bool.false_ne_true
 | str a =>
   obtain ⟨t',rfl⟩:=ry
   cases x with
   | non=>cases rx; exact SeqAt.EqAt.str_none a t'
   | bl b=>cases rx; exact SeqAt.EqAt.str_bool a t' b
   | int b=>obtain ⟨t,rfl⟩:=rx; exact SeqAt.EqAt.str_int a t' b t
   | str b=>obtain ⟨t,rfl⟩:=rx; exact SeqAt.EqAt.str_str a t' b t
   | _=>exact absurd (show false=true from fx) Bool.false_ne_true
 | _=>exact absurd (show false=true from fy) Bool.false_ne_true
def zg (x:V)(u:Value):Bool:=match u with
 | .none=>AD .non x
 | .bool b=>AD (.bl b) x
 | .int i _=>AD (.int i) x
 | .str z _=>AD (.str z) x
 | _=>false
theorem yn {x y:V}{u:Value}(r:aE y u)(f:iT y=true):zg x u=AD y x:=by
 cases y with
 | non=>cases r; rfl
 | bl b=>cases r; rfl
 | int i=>obtain ⟨t,rfl⟩:=r; rfl
 | str z=>obtain ⟨t,rfl⟩:=r; rfl
 | _=>exact absurd (show false=true from f) Bool.false_ne_true
theorem mY {x:V}:∀ {xs:List V}{us:List Value},aG xs us->xs.all iT=true->us.any (zg x)=xs.any fun y=>AD y x
 | _,_,.nil,_=>rfl
 | y :: xs,u :: us,.cons r t,f=>by
   rw [List.all_cons,Bool.and_eq_true] at f
   rw [List.any_cons,List.any_cons,yn r f.1,mY t f.2]
theorem jP {A:Around}{s:Shared}{x:V}{v:Value}(rx:aE x v)(fx:iT x=true):∀ {xs:List V}{us:List Value},aG xs us->xs.all iT=true->∀ u∈us,SeqAt.EqAt A s u v (zg x u)
 | _,_,.nil,_=>fun u hu=>by cases hu
 | y :: xs,u :: us,.cons r t,f=>fun u' hu=>by
   rw [List.all_cons,Bool.and_eq_true] at f
   rcases List.mem_cons.mp hu with rfl | hu
   ·rw [yn r f.1]; exact BN r rx f.1 fx
   ·exact jP rx fx t f.2 u' hu
def Cr (x:V)(xs:List V):Bool:=xs.any fun y=>AD y x
def Fb (K:PySem.W.Frag)(neg:Bool):R2:=fun x y H Q=>∃ p xs,y = .ref p∧(br K H p xs∨bf K H p xs)∧iT x=true∧xs.all iT=true∧Q (.bl (if neg then !Cr x xs else Cr x xs)) H
theorem mU:eM X (compareOp .NotIn) (Fb X.K true):=by
 intro pins s σ H x y v u Q I rx ry h
 obtain ⟨p,xs,rfl,hq,fx,fs,q⟩:=h
 cases ry
 rcases hq with hq | hq
 ·obtain ⟨its,r,pl,hz⟩:=I.list hq
  refine SeqAt.notIn_listAt (zg x) pl.isList (fun w hw=>jP rx fx r fs w (by simpa using hw)) ⟨.bl _,H,I,rfl,?_⟩
  rw [show its.toArray.any (zg x)=its.any (zg x) by simp,mY r fs]
  exact q
 ·obtain ⟨its,r,pl,hz⟩:=I.tuple hq
  refine SeqAt.notIn_tupleAt (zg x) pl (fun w hw=>jP rx fx r fs w (by simpa using hw)) ⟨.bl _,H,I,rfl,?_⟩
  rw [show its.toArray.any (zg x)=its.any (zg x) by simp,mY r fs]
  exact q
theorem a9:bU X (.builtin "len") (fun xs H Q=>∃ p ys,xs=[.ref p]∧(br X.K H p ys∨bf X.K H p ys)∧Q (.int ys.length) H):=by
 intro pins s σ H xs us Q I r h
 obtain ⟨p,ys,rfl,hq,q⟩:=h
 obtain ⟨u,rfl,rx⟩:=dH r
 cases rx
 have hn:=jE
 rcases hq with hq | hq
 ·obtain ⟨its,r',pl,hz⟩:=I.list hq
  have hlen:=r'.length
  exact Calls.call_len_list pl.isList (by simp only [List.size_toArray] <;> omega) ⟨.int ys.length,H,I.tok _,⟨s.toks + 1,by rw [List.size_toArray,hlen]⟩,q⟩
 ·obtain ⟨its,r',pl,hz⟩:=I.tuple hq
  have hlen:=r'.length
  exact len_tuple pl (by simp only [List.size_toArray] <;> omega) ⟨.int ys.length,H,I.tok _,⟨s.toks + 1,by rw [List.size_toArray,hlen]⟩,q⟩
theorem cL:bU X (.type "list") (fun xs H Q=>∃ p ys,xs=[.ref p]∧(br X.K H p ys∨bf X.K H p ys)∧∀ l,H l=none->Q (.ref l) (upd H l (.lst ys))):=by
 intro pins s σ H xs us Q I r h
 obtain ⟨p,ys,rfl,hq,q⟩:=h
 obtain ⟨u,rfl,rx⟩:=dH r
 cases rx
 have fin:∀ (its:List Value),aG ys its->ys.length≤sizeLine->∀ (h':Heap)(c':Nat),(∀ b o',s.heap.get? b=some o'->h'.get? b=some o') →
  h'.get? s.heap.objs.size=some { cls:=.type "list",dict:=none,data:=.seq its.toArray c',slots:=#[] }->EP X pins σ Q (.ref s.heap.objs.size) { s with heap:=h' }:=fun its r' hz h' c' kp e =>
  ⟨.ref s.heap.objs.size,_,I.laid (t':=s.toks) kp (Nat.le_refl _) (show bc X.prog X.w _ h' _ (.lst ys) from ⟨hz,its,c',r',e⟩),rfl,q _ (I.hok.fresh (Nat.le_refl _))⟩
 rcases hq with hq | hq
 ·obtain ⟨its,r',pl,hz⟩:=I.list hq
  have hlen:=r'.length
  obtain ⟨o,ho,hc,n,hd⟩:=pl.isList
  exact call_list_seq p (.inl rfl) ho hc hd (fun h' c' kp e=>fin its r' hz h' c' kp e) (by simp only [List.size_toArray] <;> omega)
 ·obtain ⟨its,r',pl,hz⟩:=I.tuple hq
  have hlen:=r'.length
  obtain ⟨o,ho,hc,n,hd⟩:=pl
  exact call_list_seq p (.inr rfl) ho hc hd (fun h' c' kp e=>fin its r' hz h' c' kp e) (by simp only [List.size_toArray] <;> omega)
theorem gc:bU X (.type "tuple") (fun xs H Q=>∃ p ys,xs=[.ref p]∧((br X.K H p ys∧∀ l,H l=none->Q (.ref l) (upd H l (.tup ys)))∨(bf X.K H p ys∧Q (.ref p) H))):=by
 intro pins s σ H xs us Q I r h
 obtain ⟨p,ys,rfl,h⟩:=h
 obtain ⟨u,rfl,rx⟩:=dH r
 cases rx
 rcases h with ⟨hq,q⟩ | ⟨hq,q⟩
 ·obtain ⟨its,r',pl,hz⟩:=I.list hq
  have hlen:=r'.length
  refine call_tuple_list pl.isList (fun h' kp=>?_) (by simp only [List.size_toArray] <;> omega)
  have I1:Inv X pins σ H { s with heap:=h' }:=I.kept (t':=s.toks) kp
  have I2:Inv X pins σ (upd H h'.objs.size (.tup ys)) { s with heap:=h'.push { cls:=.type "tuple",data:=.seq its.toArray } }:=
   I1.laid (t':=s.toks) (fun b o e=>Heap.get?_push_of_some _ e) (Nat.le_refl _) (show bc X.prog X.w _ _ _ (.tup ys) from ⟨hz,its,r',IsTup.new _ _⟩)
  exact ⟨.ref h'.objs.size,_,I2,rfl,q _ (I1.hok.fresh (Nat.le_refl _))⟩
 ·obtain ⟨its,r',pl,hz⟩:=I.tuple hq
  exact call_tuple_same pl ⟨.ref p,H,I,rfl,q⟩
def E3 (K:PySem.W.Frag)(T:String)(x:V)(H:Hp):Prop:=match x with
 | .str _=>T="str"
 | .int _=>T="int"
 | .ref p=>(T="list"∧∃ xs,br K H p xs)∨(T="tuple"∧∃ o,K.lookup p=some o∧o.cls = .type "tuple"∧o.dict=none) ∨
  (T="dict"∧((∃ kvs,H p=some (.dK kvs))∨∃ kvs,H p=some (.dT kvs)))∨(T="set"∧∃ S n,H p=some (.set S n))
 | _=>False
theorem BH {pins:List (Addr × Obj)}{σ:St}{H:Hp}{s:Shared}{T:String}{x:V}{v:Value}(I:Inv X pins σ H s)(r:aE x v)(ty:E3 X.K T x H):
 s.TypeIs v T∧∀ a,v = .ref a->∃ ob,s.heap.get? a=some ob∧ob.dict=none:=by
 cases x with
 | str z =>
   obtain ⟨t,rfl⟩:=r
   cases (show T="str" from ty)
   exact ⟨typeIs_str s z t,fun _ e=>nomatch e⟩
 | int i =>
   obtain ⟨t,rfl⟩:=r
   cases (show T="int" from ty)
   exact ⟨typeIs_int s i t,fun _ e=>nomatch e⟩
 | ref p =>
   cases r
   rcases ty with ⟨rfl,xs,hq⟩ | ⟨rfl,o,hk,hc,hd⟩ | ⟨rfl,hk⟩ | ⟨rfl,S,n,hk⟩
   ·obtain ⟨its,_,pl,_⟩:=I.list hq
    refine ⟨pl.isList.typeIs,fun a e=>?_⟩
    cases e
    obtain ⟨o,n,e,c,hd,_⟩:=pl
    exact ⟨o,e,hd⟩
   ·refine ⟨⟨o,I.kIn p o hk,hc⟩,fun a e=>?_⟩
    cases e
    exact ⟨o,I.kIn _ o hk,hd⟩
   ·have z:∃ o,s.heap.get? p=some o∧o.ExactDict:=by
     rcases hk with ⟨kvs,hk⟩ | ⟨kvs,hk⟩
     ·obtain ⟨_,_,_,_,o,_,_,e,ex,_⟩:=I.hok p _ hk
      exact ⟨o,e,ex⟩
     ·obtain ⟨_,_,_,_,o,_,_,e,ex,_⟩:=I.hok p _ hk
      exact ⟨o,e,ex⟩
    obtain ⟨o,e,ex⟩:=z
    refine ⟨⟨o,e,ex.1⟩,fun a e2=>?_⟩
    cases e2
    exact ⟨o,e,ex.2.1⟩
   ·obtain ⟨o,_,_,_,e,ex,_⟩:=I.hok p _ hk
    refine ⟨⟨o,e,ex.1⟩,fun a e2=>?_⟩
    cases e2
    exact ⟨o,e,ex.2.1⟩
 | _=>exact False.elim ty
def E9 (K:PySem.W.Frag)(T:String)(r:V->List V->Hp->VK->Prop)(to:TE)(t:TA):TE:=fun σ H Q=>to σ H fun x H1=>E3 K T x H1∧t σ H1 fun xs H2=>r x xs H2 Q
variable {o e:Expr}{es:List Expr}{to:TE}{t:TA}{name:Str}{apos cpos:Pos}{T id:String}{r:V->List V->Hp->VK->Prop}
theorem om (pa:PlainAttrs T)(slot:Slot T name id)(hty:typeOf (.builtin id)=pure (.type "method_descriptor"))(hm:EO X id r)(ho:PE X o to)(ha:PA X (e :: es) t)
 (hbase:attributeBase o name X.env (eval o X.env)=eval o X.env:=by rfl)
 (hfew:((backTo cpos (starEach (e :: es) X.env)).all (fun x=>!x.1)&&(backToKw cpos (keywordEach [] X.env)).all (fun x=>x.1.isSome)
  && decide ((e :: es).length + ([]:List Keyword).length + (if ([]:List Keyword).isEmpty then 0 else 1) < 30))=true:=by rfl)
 (hline:(apos.endLine == cpos.line)=true:=by rfl)(hs:starEach (e :: es) X.env=(false,eval e X.env):: starEach es X.env:=by rfl)(hplain:(backTo cpos (starEach es X.env)).any (·.1)=false:=by rfl):
 PE X (.Call (.Attribute o name apos) (e :: es) [] cpos) (E9 X.K T r to t):=by
 intro pins s σ H Q I h
 refine wpAny_Call_method_late hbase hfew hline rfl (bH (ho pins s σ H _ I h) fun v s1 ⟨x,H1,I1,r1,ty,q1⟩=>?_)
 obtain ⟨h1,h2⟩:=BH I1 r1 ty
 refine ⟨T,id,pa,slot,hty,h1,h2,?_⟩
 have hA:=ha cpos pins s1 σ H1 _ I1 q1
 rw [hs] at hA ⊢
 refine Calls.callWith_builtin (by show (false || (backTo cpos (starEach es X.env)).any (·.1))=false; rw [hplain] <;> rfl) (Calls.evalArgs_plain ?_)
 exact bH hA fun us s2 ⟨vs,H2,I2,r2,q2⟩=>hm pins s2 σ H2 x vs v us Q I2 r1 r2 q2
/- xs.append(e),list.index on a module's tuple .. are EO facts of 06m -/
end
def E2 (X:Cx)(id:String)(r:V->List V->Hp->VK->Prop):Prop :=
 ∀ (pins:List (Addr × Obj))(s:Shared)(σ:St)(H:Hp)(x:V)(xs:List V)(v:Value)(us:List Value)(Q:VK),Inv X pins σ H s->aE x v->aG xs us->r x xs H Q →
   wpAny (model X.prog X.w) X.A (call (.builtin id) (v :: us)) (EP X pins σ Q) X.xe s
theorem aG.one:∀ {x:V}{us:List Value},aG [x] us->∃ u,us=[u]∧aE x u
 | _,_,.cons r .nil=>⟨_,rfl,r⟩
theorem aG.eraseIdx:∀ {xs:List V}{us:List Value}(i:Nat),aG xs us->aG (xs.eraseIdx i) (us.eraseIdx i)
 | _,_,_,.nil=>.nil
 | _,_,0,.cons _ t=>t
 | _,_,i + 1,.cons r t=>.cons r (aG.eraseIdx i t)
theorem lx {α:Type}:∀ (l:List α)(i:Nat),(l.eraseIdx i).length≤l.length
 | [],_=>Nat.le_refl _
 | _ :: _,0=>Nat.le_succ _
 | _ :: r,i + 1=>Nat.succ_le_succ (lx r i)
section
variable {X:Cx}{pins:List (Addr × Obj)}{σ:St}{H:Hp}{s:Shared}{l b:Addr}{xs ys zs:List V}
theorem Inv.lset {its its':List Value}{n:Nat}{f:Array Value->Array Value}{t':Nat}(I:Inv X pins σ H s)(hH:H l=some (.lst xs))
 (e:s.heap.get? l=some { cls:=.type "list",data:=.seq its.toArray n })(hf:f its.toArray=its'.toArray)(hv:aG ys its')(hz:ys.length≤sizeLine):
 Inv X pins σ (upd H l (.lst ys)) { s with heap:=s.heap.update l (Obj.mapSeq f),toks:=t' }:=by
 have q:=PySem.IsL.update e f
 rw [hf] at q
 refine I.write (x:=l) (e:=l) (by rw [hH]; exact trivial) (.inl rfl) (fun b' u hb hu=>(Heap.get?_update_other s.heap (Obj.mapSeq f) (Ne.symm hb)).trans hu) ⟨_,q⟩ ?_
 exact ⟨hz,its',_,hv,q⟩
theorem Inv.lnew {its:List Value}{t':Nat}(I:Inv X pins σ H s)(hv:aG ys its)(hz:ys.length≤sizeLine):
 Inv X pins σ (upd H s.heap.objs.size (.lst ys)) { s with heap:=s.heap.push { cls:=.type "list",data:=.seq its.toArray },toks:=t' }:=
 I.laid (fun _ _ q=>Heap.get?_push_of_some _ q) (Nat.le_refl _) ⟨hz,its,0,hv,Heap.get?_push_size _ rfl⟩
theorem Inv.fresh (I:Inv X pins σ H s):H s.heap.objs.size=none:=I.hok.fresh (Nat.le_refl _)
theorem Inv.lstM (I:Inv X pins σ H s)(hH:H l=some (.lst xs)):xs.length≤sizeLine∧∃ (its:List Value)(n:Nat),aG xs its∧xs.length=its.length∧s.heap.get? l=some { cls:=.type "list",data:=.seq its.toArray n }:=by
 obtain ⟨z,its,n,r,e⟩:=I.hok l _ hH
 exact ⟨z,its,n,r,r.length,e⟩
end
section
variable {X:Cx}
def rAppend:V->List V->Hp->VK->Prop:=fun x vs H Q=>∃ l xs y,x = .ref l∧vs=[y]∧H l=some (.lst xs)∧xs.length < sizeLine∧Q .non (upd H l (.lst (xs++[y])))
theorem fJ:E2 X "list.append" rAppend:=by
 intro pins s σ H x vs v us Q I rx rv h
 obtain ⟨l,xs,y,rfl,rfl,hH,hz,q⟩:=h
 cases rx
 obtain ⟨u,rfl,ru⟩:=rv.one
 obtain ⟨z,its,n,r,hl,e⟩:=I.lstM hH
 refine call_meets F.slot_list_append ⟨_,e,rfl⟩ F.entry_list_append (F.args_list_append_2 _ _) (PySem.list_append l its.toArray n u (by rw [List.size_toArray]; omega)) ⟨e,?_⟩
 refine ⟨.non,_,I.lset (its':=its++[u]) hH e (by simp) (r.append (.cons ru .nil)) ?_,rfl,q⟩
 rw [List.length_append,List.length_singleton]
 omega
def rPopAt:V->List V->Hp->VK->Prop:=fun x vs H Q=>∃ l xs i k y,x = .ref l∧vs=[.int i]∧H l=some (.lst xs)∧-(2 ^ 63)≤i∧i < 2 ^ 63∧seqIndex? i xs.length=some k∧xs[k]?=some y∧Q y (upd H l (.lst (xs.eraseIdx k)))
theorem wC:E2 X "list.pop" rPopAt:=by
 intro pins s σ H x vs v us Q I rx rv h
 obtain ⟨l,xs,i,k,y,rfl,rfl,hH,h1,h2,hk,hy,q⟩:=h
 cases rx
 obtain ⟨u,rfl,ru⟩:=rv.one
 obtain ⟨t,rfl⟩:=ru
 obtain ⟨z,its,n,r,hl,e⟩:=I.lstM hH
 obtain ⟨w,hw,rw'⟩:=r.get hy
 refine call_meets F.slot_list_pop ⟨_,e,rfl⟩ F.entry_list_pop (F.args_list_pop_2 _ _)
  (MeetsSeq.list_pop_at l its.toArray n i t k w (fitsIndex_both h1 h2) (by rw [List.size_toArray,← hl]; exact hk) (by rw [← Array.getElem?_toList]; exact hw) (by rw [List.size_toArray]; omega)) ⟨e,?_⟩
 refine ⟨y,_,I.lset (its':=its.eraseIdx k) hH e ?_ (r.eraseIdx k) ?_,rw',q⟩
 ·show its.toArray.eraseIdxIfInBounds k=(its.eraseIdx k).toArray
  rw [List.eraseIdxIfInBounds_toArray]
 ·have:=lx xs k
  omega
def rCat:R2:=fun x y H Q=>∃ l b xs zs,x = .ref l∧y = .ref b∧H l=some (.lst xs)∧H b=some (.lst zs)∧xs.length + zs.length≤sizeLine∧∀ p,H p=none->Q (.ref p) (upd H p (.lst (xs++zs)))
theorem iD:eM X (binaryOp .Add) rCat:=by
 intro pins s σ H x y v u Q I rx ry h
 obtain ⟨l,b,xs,zs,rfl,rfl,hH,hB,hz,q⟩:=h
 cases rx
 cases ry
 obtain ⟨z,its,n,r,hl,e⟩:=I.lstM hH
 obtain ⟨z2,its2,n2,r2,hl2,e2⟩:=I.lstM hB
 refine PySem.P.add_list e e2 ?_ (by rw [List.size_toArray,List.size_toArray]; omega)
 have ea:its.toArray++its2.toArray=(its++its2).toArray:=by simp
 rw [ea]
 exact ⟨.ref _,_,I.lnew (t':=s.toks) (r.append r2) (by rw [List.length_append]; omega),rfl,q _ I.fresh⟩
end
end L2
namespace Att
open PySem PySem.W PySem.Calls PyProof.Rows
theorem jc {P:Params}{h:Heap}:∀ (ns:List Int)(vs:List Value),WellAll P h vs (ns.map WData.int)->IntsAre vs ns:=by
 intro ns
 induction ns with
 | nil =>
   intro vs w
   rw [List.map_nil] at w
   cases w
   exact .nil
 | cons n ns ih =>
   intro vs w
   rw [List.map_cons] at w
   cases w with
   | cons a b =>
     cases a
     exact .cons _ _ (ih _ b)
theorem vp {l:OpenLaw}{n:Nat}(hn:l.most=some n){P:Params}{h:Heap}{args:List WData}{vals:List Value}
 (hpre:l.row.toRowW.claim.pre args=true)(hwl:WellAll P h vals args):
 ∃ a vs ns,vals=[Value.ref a]∧args=[WData.list (ns.map WData.int)]∧h.get? a=some { cls:=.type "list",data:=.seq vs.toArray }∧IntsAre vs ns∧ns.length≤n:=by
 have hsh:WShape.hasAll [] args [.list .int]=true:=(pre_splitW hpre).1
 have hc:l.pre.holds [] { args:=args }=true:=(pre_splitW hpre).2
 obtain ⟨d,r,rfl,h1,h2⟩:=hasAllW_cons hsh
 obtain rfl:=hasAllW_nil h2
 obtain ⟨xs,rfl,h3⟩:=hasW_list h1
 obtain ⟨ns,rfl⟩:=items_int h3
 have hlen:ns.length≤n:=by
  unfold OpenLaw.pre at hc
  have h4:(WTm.not (.lt (.lit (.int (n:Int))) (.len (.arg 0)))).holds [] { args:=[.list (ns.map .int)] }=true:=by
   have h4:=(holds_andW hc).1
   rw [hn] at h4
   exact h4
  have h5:=condW_of h4 (w_not (w_lt w_lit (w_len_list (w_arg rfl))))
  rw [List.length_map] at h5
  refine Nat.le_of_not_lt fun q=>?_
  have q':(n:Int) < ((ns.length:Nat):Int):=by omega
  first
   | (rw [decide_eq_true q'] at h5; exact absurd h5 (by decide))
   | (simp at h5; omega)
 cases hwl with
 | cons w1 w2 =>
   cases w2
   cases w1 with
   | list ho hall=>exact ⟨_,_,ns,rfl,rfl,ho,jc ns _ hall,hlen⟩
theorem ur (l:OpenLaw)(args:List WData):l.row.toRowW.claim.post args (.bool true) args=true :=
 postW_of (r:=l.row.toRowW) (X:=(true == true))
  (show WShape.has [] (.bool true) .bool=true by first | rfl | decide | simp [WShape.has,WShape.arms,WShape.armsAll])
  (show (WTm.eq .res (.lit (.bool true))).value [] { args:=args,res:=some (.bool true),after:=args }=some (.bool (true == true)) from w_eq_bool (w_res rfl) w_lit) rfl
theorem oE {l:OpenLaw}{n:Nat}{q:Program}{loose:List Str}{XP:(Str->Option Value)->Heap->Prop}{YP:World->Heap->Prop}{d:DefRec}
 (hn:l.most=some n)(hdf:d.params.defaults=[])
 (call:∀ (w:World)(s₀ s₁:Shared)(mg mb:Str->Option Value)(fa:Addr)(o:Obj)(pm cd doc:Value)(a:Addr)(vs:List Value)(ns:List Int),
  Ground q loose [] XP w s₀ mg mb s₁.heap->YP w s₁.heap →
  s₁.heap.get? fa=some o->o.data = .func (docDef d.name d.params d.body d.scope pm cd doc)->s₁.heap.CodeRec cd d.name->mg d.name=some (.ref fa) →
  s₁.heap.get? a=some { cls:=.type "list",data:=.seq vs.toArray }->IntsAre vs ns->ns.length≤n->s₁.gens = #[] →
  codeAny (model l.prog w) callerA (.call (.ref fa) ⟨[.ref a],[]⟩) (fun r s'=>r = .ok (.ret (.bool true))∧OldK s₁.heap s'.heap∧s'.os=s₁.os∧AllBare s'.gens) s₁):
 WalkO q loose XP YP l.row.toRowW d [] (fun f vs=>PySem.call f vs):=by
 intro w s₀ s₁ mg mb G Y fa o pm cd doc dV kV ho hd hcd hD hmg hg args vals as hpre hlay hrd hwl hlo
 obtain rfl:dV = .none:=Dflts.none hD hdf
 obtain rfl:kV = .none:=Dflts.noKw hD
 obtain ⟨a,vs,ns,rfl,rfl,hobj,hints,hlen⟩:=vp hn hpre hwl
 refine enter_call (codeAny_mono (call w s₀ s₁ mg mb fa o pm cd doc a vs ns G Y ho (fd_plain hd) hcd hmg hobj hints hlen hg) fun r s' hq=>?_)
 obtain ⟨rfl,h2,h3,h4⟩:=hq
 exact ⟨.inl ⟨.bool true,.bool true,[],rfl,fun _=>rfl,.bool true,ur l _,fun _=>⟨List.Pairwise.nil,fun _ hm=>(nomatch hm)⟩⟩,h2,h3,h4⟩
end Att
namespace L2
open PySem PySem.Spec PyProof.Rows
theorem lQ:∀ {vs:List Value}{ns:List Int},IntsAre vs ns->aG (ns.map V.int) vs
 | _,_,.nil=>.nil
 | _,_,.cons n t h=>.cons ⟨t,rfl⟩ (lQ h)
structure Fun (K:PySem.W.Frag)(x qual:Str)(st:Stmt)(f:Addr)(fd:FuncData):Prop where
 ex:∃ (oc:Value)(od:Option Addr)(kV doc pm:Value)(an:Option Addr)(cdv ct:Value)(osl:Array (Option Value)),
  fd=PySem.W.fnOf x qual (cZ st) (cm st) (ar st) .none kV doc pm an cdv ct∧K.lookup f=some ⟨oc,od,.func fd,osl⟩∧PySem.W.codeIn K cdv qual=true
 kp:PySem.W.keepIn K (.ref f)=true
section
variable {P:Program}{w:World}{K:PySem.W.Frag}{mg:Str->Option Value}{base:Heap}
theorem Fun.binds {x qual:Str}{st:Stmt}{f:Addr}{fd:FuncData}{ps:List Str}(F:Fun K x qual st f fd)
 (h:∀ (kV doc pm:Value)(an:Option Addr)(cdv ct:Value)(us:List Value),us.length=ps.length->bindArgs (PySem.W.fnOf x qual (cZ st) (cm st) (ar st) .none kV doc pm an cdv ct) ⟨us,[]⟩=pure (ps.zip us)):aH K fd ps []:=by
 obtain ⟨oc,od,kV,doc,pm,an,cdv,ct,osl,rfl,lk,hcd⟩:=F.ex
 exact .all (h kV doc pm an cdv ct)
theorem Bh {x qual:Str}{st:Stmt}{f:Addr}{oc:Value}{od an:Option Addr}{osl:Array (Option Value)}{kV doc pm cdv ct:Value}(l:K.lookup f=some ⟨oc,od,.func (PySem.W.fnOf x qual (cZ st) (cm st) (ar st) .none kV doc pm an cdv ct),osl⟩)
 (c:PySem.W.codeIn K cdv qual=true)(k:PySem.W.keepIn K (.ref f)=true):Fun K x qual st f (PySem.W.fnOf x qual (cZ st) (cm st) (ar st) .none kV doc pm an cdv ct):=⟨⟨oc,od,kV,doc,pm,an,cdv,ct,osl,rfl,l,c⟩,k⟩
end
theorem uY {n:Nat}(h:n≤1000):n < sizeLine:=Nat.lt_of_le_of_lt h (by decide)
section
variable {X:Cx}
theorem pv (i:Nat){x:Str}{pos:Pos}(hN:X.N[i]?=some x:=by rfl)(hv:DQ X.env.scope x:=by first | exact Or.inl rfl | exact Or.inr (Or.inl rfl) | exact Or.inr (Or.inr rfl))(hd:(x == ("__debug__":Str))=false:=by decide)
 (hcd:(x == ("__classdict__":Str))=false:=by decide):PE X (.Name x pos) (dF i):=Bm hN hv hd hcd
end
theorem cf {A B:Prop}(h:B):if false=true then A else B:=by
 rw [if_neg Bool.false_ne_true]
 exact h
theorem bV {A B:Prop}(h:A):if true=true then A else B:=by
 rw [if_pos rfl]
 exact h
theorem bQ {c A B:Prop} [Decidable c](h1:c->A)(h2:¬ c->B):if c then A else B:=by
 by_cases h:c
 ·rw [if_pos h]
  exact h1 h
 ·rw [if_neg h]
  exact h2 h
def aA (H H':Hp):Prop:=∀ b o,H b=some o->H' b=some o
theorem aA.refl (H:Hp):aA H H:=fun _ _ h=>h
theorem aA.trans {H H1 H2:Hp}(a:aA H H1)(b:aA H1 H2):aA H H2:=fun c o h=>b c o (a c o h)
theorem dj {P:Program}{w:World}{H:Hp}{h:Heap}{a:Addr}{o:HO}(x:eK P w H h)(hn:H a=none)(new:bc P w (upd H a o) h a o):eK P w (upd H a o) h:=fun b u e=>by
 by_cases hb:b=a
 ·subst hb; rw [ag] at e; cases e; exact new
 ·rw [aq hb] at e
  exact (x b u e).stay (fun c v _ q=>q) (fun c q=>by rw [aq (au q hn)]; exact q) fun c xs q=>by rw [aq (au q hn)]; exact q
section
variable {prog:Program}{w:World}{A:Around}{R:Result->Shared->Prop}{s:Shared}
theorem nJ {elt target iter:Expr}{ifs:List Expr}{scope:Scope}{pos:Pos}{it acc:Value}{env:Env}(I:Nat->Shared->Prop)
 (turn:∀ n s,I n s->wpAny (model prog w) A (pyNext it) (fun r s₁=>match r with
  | none=>R (.ok .next) s₁
  | some v=>wpAny (model prog w) A (letOwnedTupleGo target it v) (fun _ s₁=>wpAny (model prog w) A (assign target env v) (fun _ s₂ =>
   wpAny (model prog w) A (forIn ifs true fun c r=>if r=true then do let ok ← isTrue c env (eval c env); pure (ForInStep.yield ok) else pure (ForInStep.yield r)) (fun ok s₃ =>
    if ok=true then wpAny (model prog w) A (eval elt env) (fun x s₄ =>
     wpAny (model prog w) A (call (.builtin "list.append") [acc,x]) (fun _ s₅=>∃ m,m < n∧I m s₅) (fun _ _=>False) s₄) (fun _ _=>False) s₃
    else ∃ m,m < n∧I m s₃) (fun _ _=>False) s₂) (fun _ _=>False) s₁) (fun _ _=>False) s₁) (fun _ _=>False) s)
 (n:Nat)(h:I n s):
 codeAny (model prog w) A (.compLoop (.ListComp elt [⟨target,iter,ifs,0⟩] scope pos) 0 it acc env) R s:=by
 refine codeAny_loop rfl I (fun n s hI=>?_) n h
 show wpAny _ A ((compTurn (.ListComp elt [⟨target,iter,ifs,0⟩] scope pos) 0 it acc env).onRaise (fun x=>do noteFrame x env; theTreesLotGoes x)) _ _ s
 refine wpAny_noted ?_
 rw [compTurn_list]
 refine wpAny_bind (wpAny_standAt (wpAny_bind (wpAny_mono (turn n s hI) (fun r s₁ h₁=>?_) fun _ _ z=>False.elim z)))
 cases r with
 | none=>exact wpAny_pure h₁
 | some v =>
   refine wpAny_bind (wpAny_mono h₁ (fun _ s₁' h₁'=>?_) fun _ _ z=>False.elim z)
   refine wpAny_bind (wpAny_mono h₁' (fun _ s₂ h₂=>wpAny_bind (wpAny_mono h₂ (fun ok s₃ h₃=>?_) fun _ _ z=>False.elim z)) fun _ _ z=>False.elim z)
   cases ok with
   | false=>exact wpAny_pure ⟨rfl,h₃⟩
   | true =>
     exact wpAny_bind (wpAny_bind (wpAny_mono h₃ (fun x s₄ h₄=>wpAny_bind (wpAny_mono h₄ (fun _ s₅ h₅=>wpAny_pure (wpAny_pure ⟨rfl,h₅⟩)) fun _ _ z=>False.elim z)) fun _ _ z=>False.elim z))
end
def fb (names:List (Str × NameKind))(env:Env):List (Str × Addr):=((names.filter fun x=>x.2 == .free).map fun x=>(x.1,(env.cells.lookup x.1).getD 0)).reverse
theorem kY {scope:Scope}{env:Env}(h:∀ x∈scope.names,x.2 = .free->∃ c,env.cells.lookup x.1=some c):closureFor scope env=pure (fb scope.names env):=by
 have key:∀ (names:List (Str × NameKind))(cs:List (Str × Addr)),(∀ x∈names,x.2 = .free->∃ c,env.cells.lookup x.1=some c) →
  (forIn names cs (fun (x:Str × NameKind)(r:List (Str × Addr))=>if (x.2 == NameKind.free)=true then (do let a ← cellOf env x.1; pure (ForInStep.yield ((x.1,a):: r))) else pure (ForInStep.yield r)):Sem (List (Str × Addr)))=pure (fb names env++cs):=by
  intro names
  induction names with
  | nil=>intro cs _; rfl
  | cons x r ih =>
    intro cs hn
    rw [List.forIn_cons]
    obtain ⟨n,k⟩:=x
    by_cases hk:k = .free
    ·subst hk
     obtain ⟨c,hc⟩:=hn (n,.free) List.mem_cons_self rfl
     have hco:cellOf env n=pure c:=by unfold cellOf; rw [hc]
     simp only [beq_self_eq_true,if_true,hco,pure_bind]
     rw [ih _ fun y hy=>hn y (List.mem_cons_of_mem _ hy)]
     simp [fb,hc]
    ·have hb:(k == NameKind.free)=false:=by simpa using hk
     simp only [hb,Bool.false_eq_true,if_false,pure_bind]
     rw [ih _ fun y hy=>hn y (List.mem_cons_of_mem _ hy)]
     simp [fb,hb]
 have z:=key scope.names [] h
 rw [List.append_nil] at z
 unfold closureFor
 first
  | exact z
  | (simp only [bind_pure]; exact z)
  | (simp; exact z)
theorem pX {names:List (Str × NameKind)}{env:Env}(h:∀ x∈names,x.2 = .free->∃ c,env.cells.lookup x.1=some c){x:Str}{c:Addr}(e:(fb names env).lookup x=some c):env.cells.lookup x=some c:=by
 have m:=PySem.mem_of_lookup e
 unfold fb at m
 rw [List.mem_reverse,List.mem_map] at m
 obtain ⟨y,hy,e'⟩:=m
 rw [List.mem_filter] at hy
 obtain ⟨c',hc'⟩:=h y hy.1 (by simpa using hy.2)
 rw [hc'] at e'
 injection e' with e1 e2
 subst e1
 rw [hc']
 exact congrArg some e2
theorem pI {names:List (Str × NameKind)}{env:Env}{x:Str}(hm:(x,NameKind.free)∈names):∃ c,(fb names env).lookup x=some c:=by
 have m:∃ c,(x,c)∈fb names env:=⟨(env.cells.lookup x).getD 0,by
  unfold fb
  rw [List.mem_reverse,List.mem_map]
  exact ⟨(x,.free),List.mem_filter.mpr ⟨hm,rfl⟩,rfl⟩⟩
 obtain ⟨c,m⟩:=m
 cases q:(fb names env).lookup x with
 | some d=>exact ⟨d,rfl⟩
 | none =>
   exfalso
   have:∀ (l:List (Str × Addr)),(x,c)∈l->l.lookup x≠none:=by
    intro l
    induction l with
    | nil=>intro h; cases h
    | cons p r ih =>
      intro h
      rw [List.lookup_cons]
      rcases List.mem_cons.mp h with h | h
      ·subst h; simp
      ·split
       ·simp
       ·exact ih h
   exact this _ m q
def eN (X:Cx)(N:List Str)(scope:Scope)(C:Addr)(fp:List Addr)(s:Shared)(H:Hp):Cx where
 prog:=X.prog
 w:=X.w
 K:=X.K
 mg:=X.mg
 base:=X.base
 A:=X.A
 N:=N
 s₀:=s
 H₀:=H
 env:=compEnvC scope (fb scope.names X.env) C X.env
 outer:=X.stack
 stack:=X.stack
 ex:=fp
 fn:=fun _=>false
 calm:=X.calm
 pn:=[]
 xe:=fun _ _=>False
def σC (nl:Nat)(js:List Nat)(σ:St):St:=List.replicate nl none++js.map fun j=>(σ[j]?).join
structure CompOk (X:Cx)(N:List Str)(nl:Nat)(js:List Nat)(osc scope:Scope):Prop where
 out:X.env.scope=osc
 kind:scope.kind = .function
 cell:∀ y∈scope.names,y.2 ≠ .cell
 names:∀ y∈scope.names,y.2 = .local->scope.names.lookup y.1=some .local
 free:∀ y∈scope.names,y.2 = .free->osc.names.lookup y.1=some .cell∨osc.names.lookup y.1=some .free
 len:N.length=nl + js.length
 src:Paired (fun j x=>X.N[j]?=some x∧(x,NameKind.free)∈scope.names) js (N.drop nl)
 nolf:∀ y∈scope.names,y.2 = .free->scope.names.lookup y.1≠some .local
theorem eE {env:Env}:∀ {names:List (Str × NameKind)}{x:Str}{k:NameKind},(∀ y∈names,y.2 ≠ .cell) →
 (names.map fun (n,k)=>if (k == NameKind.free&&env.scope.kind == .function&&env.kindOf n == some .cell) then (n,NameKind.cell) else (n,k)).lookup x=some k->(k = .cell∨k = .free)->(x,NameKind.free)∈names
 | [],_,_,_,h,_=>by simp at h
 | (n,k0):: r,x,k,hc,h,hk=>by
   have h:List.lookup x ((if (k0 == NameKind.free&&env.scope.kind == .function&&env.kindOf n == some .cell)=true then (n,NameKind.cell) else (n,k0)):: r.map fun (n,k)=>if (k == NameKind.free&&env.scope.kind == .function&&env.kindOf n == some .cell) then (n,NameKind.cell) else (n,k))=some k:=h
   have ih:=@eE env r x k fun y hy=>hc y (List.mem_cons_of_mem _ hy)
   by_cases hx:x=n
   ·subst hx
    have hk0:k0 = .free:=by
     by_cases hb:(k0 == NameKind.free&&env.scope.kind == .function&&env.kindOf x == some .cell)=true
     ·have:=(Bool.and_eq_true_iff.mp (Bool.and_eq_true_iff.mp hb).1).1
      simpa using this
     ·rw [if_neg hb] at h
      simp only [List.lookup_cons,beq_self_eq_true] at h
      have e:k0=k:=Option.some.inj h
      rcases hk with z | z
      ·exact absurd (e.trans z) (hc (x,k0) List.mem_cons_self)
      ·exact e.trans z
    subst hk0
    exact List.mem_cons_self
   ·have hb:(x == n)=false:=by simpa using hx
    refine List.mem_cons_of_mem _ (ih ?_ hk)
    by_cases hc':(k0 == NameKind.free&&env.scope.kind == .function&&env.kindOf n == some .cell)=true
    ·rw [if_pos hc'] at h; simp only [List.lookup_cons,hb] at h; exact h
    ·rw [if_neg hc'] at h; simp only [List.lookup_cons,hb] at h; exact h
section
variable {X:Cx}{tg iter elt:Expr}{ifs:List Expr}{scope osc:Scope}{pos:Pos}{N:List Str}{nl:Nat}{js:List Nat}
def Dp (X:Cx)(ifs:List Expr)(t:TT):Prop :=
 ∀ (pins:List (Addr × Obj))(s:Shared)(σ:St)(H:Hp)(Q:Bool->Hp->Prop),Inv X pins σ H s->t σ H Q →
   wpAny (model X.prog X.w) X.A (forIn ifs true fun c r=>if r=true then do let ok ← isTrue c X.env (eval c X.env); pure (ForInStep.yield ok) else pure (ForInStep.yield r)) (TP X pins σ Q) X.xe s
def tYes:TT:=fun _ H Q=>Q true H
theorem gM:Dp X [] tYes:=fun _ _ _ H _ I h=>wpAny_tests_nil ⟨H,I,h⟩
theorem fH {c:Expr}{t:TT}(h:PT X c t):Dp X [c] t:=fun pins s σ H Q I hw=>wpAny_tests_one (h pins s σ H Q I hw)
theorem cX {pins:List (Addr × Obj)}{σ:St}{H:Hp}{s:Shared}{b:Addr}{h':Heap}(I:Inv X pins σ H s)(f:cQ X pins H b)(sb:Heap.SameBut b s.heap h'):Inv X pins σ H { s with heap:=h' }:=
 I.turned (t':=s.toks) (fun c o hc e=>(sb.2 c hc).trans e) f.1 f.2.1 f.2.2.2.1 f.2.2.2.2.1 f.2.2.2.2.2
def iR (J:It)(g:TG)(tt:TT)(te:TE)(W:Nat->Nat->List V->St->Hp->Prop)(Fin:List V->Hp->Prop):Prop :=
 ∀ i m xs σ' H',W i m xs σ' H'->xs.length < sizeLine∧((J.stop i H'∧Fin xs H') ∨
   (J.go i H'∧∀ x H2,J.yld i H' x H2->g x σ' H2 fun σ3 H3=>tt σ3 H3 fun b H4 =>
    if b=true then te σ3 H4 fun y H5=>∃ m',m' < m∧W (i + 1) m' (xs++[y]) σ3 H5 else ∃ m',m' < m∧W (i + 1) m' xs σ3 H4))
theorem uI {pins:List (Addr × Obj)}{σ:St}{H:Hp}{s:Shared}{fp:List Addr}{h1:Heap}{C:Addr}{tk:Nat}(S:CompOk X N nl js osc scope)(I:Inv X pins σ H s)(f:∀ b∈fp,cQ X pins H b)(hfp:∀ b∈fp,b < s.heap.objs.size)
 (hC:s.heap.objs.size≤C)(old:∀ b o,s.heap.get? b=some o->h1.get? b=some o){m1:Str->Option Value}(hns:h1.Ns C m1):
 Inv (eN X N scope C fp s H) [] (σC nl js σ) H { s with heap:=h1,toks:=tk }:=by
 have hfree:∀ y∈scope.names,y.2 = .free->X.env.kindOf y.1=some .cell∨X.env.kindOf y.1=some .free:=fun y hy hf=>by
  have:=S.free y hy hf
  rw [← S.out] at this
  exact this
 have hcells:∀ y∈scope.names,y.2 = .free->∃ c,X.env.cells.lookup y.1=some c:=fun y hy hf=>I.ok.has y.1 (hfree y hy hf)
 have sub:∀ x c,(fb scope.names X.env).lookup x=some c->X.env.cells.lookup x=some c:=fun x c e=>pX hcells e
 have nfs:∀ b∈fp,b ∉ di X.stack:=fun b hb z=>by
  rcases List.mem_cons.mp (I.stkSub b z) with q | q
  ·exact (f b hb).2.1 q
  ·exact (f b hb).2.2.1 q
 refine ⟨⟨I.ok.mod,S.kind,I.ok.glob,I.ok.blt,hC,fun x y c e1 e2=>I.ok.inj x y c (sub x c e1) (sub y c e2),fun x hx=>?_,fun x c z _=>absurd z (by show ¬ (false=true); decide),I.ok.hd,I.ok.frames,.inl rfl,
  fun b hb=>⟨Nat.ne_of_lt (Nat.lt_of_lt_of_le (hfp b hb) hC),fun x c e=>(f b hb).2.2.2.2.1 x c (sub x c e)⟩,I.bs,Nat.le_trans I.ok.bsz I.sz,fun b o e hb=>?_,nfs,I.stack,I.stkFree⟩,
  rfl,I.bare,Un.kept old,⟨m1,hns,fun i x v e1 e2 e3=>?_⟩,fun x c e=>?_,I.hok.fresh hC,fun x c e=>I.freeC x c (sub x c e),fun p hp=>absurd (show p∈([]:List (Addr × Obj)) from hp) (by simp),I.hok.kept old,?_⟩
 ·have hx:(relabel scope X.env).names.lookup x=some .cell∨(relabel scope X.env).names.lookup x=some .free:=hx
  have m:(x,NameKind.free)∈scope.names:=by
   rcases hx with z | z
   ·exact eE S.cell z (.inl rfl)
   ·exact eE S.cell z (.inr rfl)
  exact pI m
 ·rcases (f b hb).2.2.2.1 with z | z
  ·exact I.ok.noex b o e z
  ·exact absurd (Nat.lt_of_lt_of_le (Heap.lt_size e) (Nat.le_trans I.ok.bsz z)) (Nat.lt_irrefl _)
 ·-- the names
  have e1:N[i]?=some x:=e1
  unfold σC at e2
  by_cases hi:i < nl
  ·rw [List.getElem?_append_left (by simpa using hi),List.getElem?_replicate] at e2
   split at e2 <;> cases e2
  ·obtain ⟨k,rfl⟩:∃ k,i=nl + k:=⟨i - nl,by omega⟩
   rw [List.getElem?_append_right (by simp),List.length_replicate,Nat.add_sub_cancel_left,List.getElem?_map] at e2
   cases ej:js[k]? with
   | none=>rw [ej] at e2; cases e2
   | some j =>
     rw [ej] at e2
     have e2:some ((σ[j]?).join)=some (some v):=e2
     have e2:=Option.some.inj e2
     have e4:σ[j]?=some (some v):=by
      cases q:σ[j]? with
      | none=>rw [q] at e2; cases e2
      | some z=>rw [q] at e2; exact congrArg some e2
     have e5:(N.drop nl)[k]?=some x:=by rw [List.getElem?_drop]; exact e1
     have gp:∀ {l1:List Nat}{l2:List Str}{k:Nat}{j:Nat}{x:Str},Paired (fun j x=>X.N[j]?=some x∧(x,NameKind.free)∈scope.names) l1 l2->l1[k]?=some j->l2[k]?=some x->X.N[j]?=some x∧(x,NameKind.free)∈scope.names:=by
      intro l1 l2 k j x p
      induction p generalizing k with
      | nil=>intro h; simp at h
      | cons r _ ih =>
        intro h1 h2
        cases k with
        | zero=>simp at h1 h2; subst h1; subst h2; exact r
        | succ k=>exact ih (by simpa using h1) (by simpa using h2)
     obtain ⟨hx,hm⟩:=gp S.src ej e5
     have hk:=hfree (x,.free) hm rfl
     obtain ⟨m,hn,hl⟩:=I.loc
     have vis:DQ X.env.scope x:=by
      rcases hk with z | z
      ·exact .inr (.inl z)
      ·exact .inr (.inr z)
     obtain ⟨u,r,l⟩:=hl j x v hx e4 vis
     refine ⟨u,r,?_⟩
     rcases l with ⟨k1,_⟩ | ⟨_,c,hc,hcell⟩
     ·exfalso
      rcases hk with z | z <;> (rw [z] at k1; cases k1)
     ·obtain ⟨c',hc'⟩:=pI (env:=X.env) hm
      have:=sub x c' hc'
      rw [hc] at this
      cases this
      refine .inr ⟨?_,c,hc',?_⟩
      ·rcases e3 with z | z | z
       ·-- a name of the block's own: no
        exfalso
        have lk:scope.names.lookup x=some .local:=by
         have gen:∀ (l:List (Str × NameKind)),(l.map fun (n,k)=>if (k == NameKind.free&&X.env.scope.kind == .function&&X.env.kindOf n == some .cell) then (n,NameKind.cell) else (n,k)).lookup x=some .local->l.lookup x=some .local:=by
          intro l
          induction l with
          | nil=>intro h; simp at h
          | cons p r ih =>
            obtain ⟨n,k0⟩:=p
            intro h
            have h:List.lookup x ((if (k0 == NameKind.free&&X.env.scope.kind == .function&&X.env.kindOf n == some .cell)=true then (n,NameKind.cell) else (n,k0)):: r.map fun (n,k)=>if (k == NameKind.free&&X.env.scope.kind == .function&&X.env.kindOf n == some .cell) then (n,NameKind.cell) else (n,k))=some .local:=h
            cases hb:x == n with
            | true =>
              by_cases hc':(k0 == NameKind.free&&X.env.scope.kind == .function&&X.env.kindOf n == some .cell)=true
              ·rw [if_pos hc'] at h; simp only [List.lookup_cons,hb] at h; cases h
              ·rw [if_neg hc'] at h; simp only [List.lookup_cons,hb] at h ⊢; exact h
            | false =>
              simp only [List.lookup_cons,hb]
              refine ih ?_
              by_cases hc':(k0 == NameKind.free&&X.env.scope.kind == .function&&X.env.kindOf n == some .cell)=true
              ·rw [if_pos hc'] at h; simp only [List.lookup_cons,hb] at h; exact h
              ·rw [if_neg hc'] at h; simp only [List.lookup_cons,hb] at h; exact h
         exact gen _ z
        exact S.nolf (x,.free) hm rfl lk
       ·exact .inl z
       ·exact .inr z
      ·obtain ⟨o,ho,hd⟩:=hcell
       exact ⟨o,old _ _ ho,hd⟩
 ·obtain ⟨v,o,ho,hd⟩:=I.cell x c (sub x c e)
  exact ⟨v,o,old _ _ ho,hd⟩
 ·show (σC nl js σ).length=N.length
  unfold σC
  rw [List.length_append,List.length_replicate,List.length_map,S.len]
abbrev yS (ys:List Value)(k:Nat):Obj:={ cls:=.type "list",data:=.seq ys.toArray k }
theorem jZ {pins:List (Addr × Obj)}{σ:St}{H:Hp}{s:Shared}{J:It}{it:Addr}{fp:List Addr}{tn:Nat->Heap->Prop}{g:TG}{tt:TT}{te:TE}{W:Nat->Nat->List V->St->Hp->Prop}{Fin:List V->Hp->Prop}
 {E:Value->Shared->Prop}{RR:Value->Addr->Result->Shared->Prop}
 (S:CompOk X N nl js osc scope)(hc:X.calm=true)(hg:∀ C fp s H,PG (eN X N scope C fp s H) tg g)(ht:∀ C fp s H,Dp (eN X N scope C fp s H) ifs tt)(he:∀ C fp s H,PE (eN X N scope C fp s H) elt te)
 (I:Inv X pins σ H s)(T:Turn X.prog X.w X.K tg J fp it tn)(st:tn 0 s.heap)(f:∀ b∈fp,cQ X pins H b)(w0:∃ m,W 0 m [] (σC nl js σ) H)(hW:iR J g tt te W Fin)
 (hRR:∀ (D C:Addr)(H':Hp)(s':Shared)(xs:List V)(m:Str->Option Value),Inv X pins σ (upd H' D (.lst xs)) s'->H' D=none->s'.heap.Ns C m->cQ X pins (upd H' D (.lst xs)) C->Fin xs H'->RR (.ref D) C (.ok .next) s'):
 wpAny (model X.prog X.w) X.A (newList []) (fun acc s₃=>wpAny (model X.prog X.w) X.A (newFunctionEnv scope X.env.globals (fb scope.names X.env) [] X.env.qual none .none (some X.env)) (fun cenv s₄ =>
  codeAny (model X.prog X.w) X.A (.compStart (.ListComp elt [⟨tg,iter,ifs,0⟩] scope pos) 0 (.ref it) acc { cenv with scope:=relabel scope X.env }) (RR acc cenv.locals) s₄) E s₃) E s:=by
 have hfp:∀ b∈fp,b < s.heap.objs.size:=fun b hb=>by
  obtain ⟨o,e,_⟩:=T.obj 0 _ st b hb
  exact Heap.lt_size e
 refine wpAny_newObj_type (wpAny_newFunctionEnv S.cell (by intro y hy; simp at hy) (fun h₁ hns₁ hsb₁=>?_) S.kind)
 dsimp only at hns₁ hsb₁ ⊢
 generalize hH2:s.heap.push { cls:=.type "list",dict:=none,data:=.seq ([]:List Value).toArray }=H2 at hns₁ hsb₁ ⊢
 have hC:H2.objs.size=s.heap.objs.size + 1:=by rw [← hH2,Heap.size_push]
 have hDC:s.heap.objs.size≠H2.objs.size:=by rw [hC]; exact Nat.ne_of_lt (Nat.lt_succ_self _)
 have below:∀ b,b < s.heap.objs.size->b≠H2.objs.size∧b≠s.heap.objs.size:=fun b hb=>⟨by rw [hC]; exact Nat.ne_of_lt (Nat.lt_succ_of_lt hb),Nat.ne_of_lt hb⟩
 have old:∀ b o,s.heap.get? b=some o->h₁.get? b=some o:=fun b o e=>hsb₁.extBut b o (below b (Heap.lt_size e)).1 (Heap.get?_push_of_some _ (hH2 ▸ Heap.get?_push_of_some _ e))
 have hacc:h₁.get? s.heap.objs.size=some { cls:=.type "list",data:=.seq ([]:List Value).toArray 0 }:=hsb₁.extBut _ _ hDC (Heap.get?_push_of_some _ (hH2 ▸ Heap.get?_push_size _ rfl))
 have hCle:s.heap.objs.size≤H2.objs.size:=by rw [hC]; exact Nat.le_succ _
 have hcells:∀ y∈scope.names,y.2 = .free->∃ c,X.env.cells.lookup y.1=some c:=fun y hy hf=>by
  have z:=S.free y hy hf
  rw [← S.out] at z
  exact I.ok.has y.1 z
 have sub:∀ x c,(fb scope.names X.env).lookup x=some c->X.env.cells.lookup x=some c:=fun x c e=>pX hcells e
 have clt:∀ x c,(fb scope.names X.env).lookup x=some c->c < s.heap.objs.size:=fun x c e=>by
  obtain ⟨v,q⟩:=I.cell x c (sub x c e)
  exact q.lt
 have nfs:∀ b∈fp,b ∉ di X.stack:=fun b hb z=>by
  rcases List.mem_cons.mp (I.stkSub b z) with q | q
  ·exact (f b hb).2.1 q
  ·exact (f b hb).2.2.1 q
 have dfs:s.heap.objs.size ∉ di X.stack:=fun z=>by
  rcases List.mem_cons.mp (I.stkSub _ z) with q | q
  ·exact absurd I.lt (by rw [← q]; exact Nat.lt_irrefl _)
  ·exact I.nofs (Nat.le_refl _) q
 have dfp:s.heap.objs.size ∉ fp:=fun z=>Nat.lt_irrefl _ (hfp _ z)
 have fpk:∀ {H':Hp}{ob:Obj},(∀ b∈fp,H' b=none)->∀ b∈fp,cQ (eN X N scope H2.objs.size fp s H) [(s.heap.objs.size,ob)] H' b:=fun {H' ob} hn b hb =>
  ⟨hn b hb,(below b (hfp b hb)).1,nfs b hb,.inl hb,fun x c e=>(f b hb).2.2.2.2.1 x c (sub x c e),fun p hp z=>by
   have e:p=(s.heap.objs.size,ob):=by
    have:p∈[(s.heap.objs.size,ob)]:=hp
    simpa using this
   subst e
   exact dfp (by rw [show s.heap.objs.size=b from z]; exact hb)⟩
 have dOk:∀ {H':Hp},H' s.heap.objs.size=none->cQ (eN X N scope H2.objs.size fp s H) [] H' s.heap.objs.size:=fun {H'} hn =>
  ⟨hn,hDC,dfs,.inr (Nat.le_refl _),fun x c e=>Nat.ne_of_lt (clt x c e),fun p hp=>absurd (show p∈([]:List (Addr × Obj)) from hp) (by simp)⟩
 have pinD:∀ {σ':St}{H':Hp}{s':Shared}{ys:List Value}{k:Nat},Inv (eN X N scope H2.objs.size fp s H) [] σ' H' s'->H' s.heap.objs.size=none->s'.heap.get? s.heap.objs.size=some (yS ys k) →
  Inv (eN X N scope H2.objs.size fp s H) [(s.heap.objs.size,yS ys k)] σ' H' s':=fun {σ' H' s' ys k} I' hn hl=>I'.pins_of fun p hp=>by
  have e:p=(s.heap.objs.size,yS ys k):=by simpa using hp
  subst e
  exact ⟨hl,hn,hDC,dfs,fun v z=>by cases z⟩
 have loop:∀ s₃:Shared,s₃={ s with heap:=h₁,toks:=s.toks + ([]:List (Str × Value)).length } →
  codeAny (model X.prog X.w) X.A (.compLoop (.ListComp elt [⟨tg,iter,ifs,0⟩] scope pos) 0 (.ref it) (.ref s.heap.objs.size) (compEnvC scope (fb scope.names X.env) H2.objs.size X.env))
   (RR (.ref s.heap.objs.size) H2.objs.size) s₃:=by
  rintro s₃ rfl
  obtain ⟨m0,w0⟩:=w0
  have I0:Inv (eN X N scope H2.objs.size fp s H) [] (σC nl js σ) H { s with heap:=h₁,toks:=s.toks + ([]:List (Str × Value)).length }:=uI S I f hfp hCle old hns₁
  refine nJ (fun n s'=>∃ i σ' H' xs ys k,Inv (eN X N scope H2.objs.size fp s H) [(s.heap.objs.size,yS ys k)] σ' H' s'∧tn i s'.heap∧(∀ b∈fp,H' b=none)∧aG xs ys∧W i n xs σ' H') ?_ m0
   ⟨0,σC nl js σ,H,[],[],0,pinD I0 (I.hok.fresh (Nat.le_refl _)) hacc,T.keep _ _ _ st fun b _ o e=>old b o e,fun b hb=>(f b hb).1,.nil,w0⟩
  rintro n s' ⟨i,σ',H',xs,ys,k,I',st',fr',rv,w'⟩
  obtain ⟨hz,hw⟩:=hW i n xs σ' H' w'
  rcases hw with ⟨stop,fin⟩ | ⟨go,step⟩
  ·refine wpAny_mono (T.done (eN X N scope H2.objs.size fp s H) rfl rfl rfl hc i _ s' σ' H' (fun _ _=>False) I' (fpk fr') st' stop) (fun r s1 ⟨hr,I1⟩=>?_) fun _ _ z=>z
   subst hr
   obtain ⟨p1,p2,_⟩:=I1.pin (s.heap.objs.size,yS ys k) (by show _∈([]:List (Addr × Obj))++[_]; simp)
   have u1:Un (di X.stack) fp H H' s.heap s1.heap:=I1.base
   have u2:Un (di X.stack) fp H (upd H' s.heap.objs.size (.lst xs)) s.heap s1.heap:=⟨u1.keep,u1.slot,fun b o e n hx=>by rw [aq (Nat.ne_of_lt (Heap.lt_size e))]; exact u1.free b o e n hx,u1.there,
    fun b zs e=>by rw [aq (au (u1.tups b zs e) p2)]; exact u1.tups b zs e,fun b o zs e=>by rw [aq (au (u1.frzs b o zs e) p2)]; exact u1.frzs b o zs e,fun b ps e=>by
     obtain ⟨mo,q⟩:=u1.tbls b ps e
     exact ⟨mo,by rw [aq (au q p2)]; exact q⟩⟩
   have hk:eK X.prog X.w (upd H' s.heap.objs.size (.lst xs)) s1.heap:=dj I1.hok p2 ⟨Nat.le_of_lt hz,ys,k,rv,p1⟩
   have I3:Inv X pins σ (upd H' s.heap.objs.size (.lst xs)) s1:=I.call' I1.os u2 hk I1.bare fun b hb=>⟨(f b hb).2.2.2.1,(f b hb).2.1,(f b hb).2.2.2.2.1,(f b hb).2.2.2.2.2⟩
   obtain ⟨mm,hnn,_⟩:=I1.loc
   have hnC:upd H' s.heap.objs.size (.lst xs) H2.objs.size=none:=by rw [aq (Ne.symm hDC)]; exact I1.free
   exact hRR _ _ H' s1 xs mm I3 p2 hnn (I.fpOk hCle hnC) fin
  ·refine wpAny_mono (T.item (eN X N scope H2.objs.size fp s H) rfl rfl rfl hc i _ s' σ' H' (fun _ _=>False) I' (fpk fr') st' go) (fun r s1 ⟨u,hr,h4⟩=>?_) fun _ _ z=>z
   subst hr
   refine wpAny_mono h4 (fun _ s2 ⟨x,H2',I2,r2,y2,st2,fr2⟩=>?_) fun _ _ z=>z
   have I2':=I2.pinned (fpk fr2) (T.obj _ _ st2)
   refine wpAny_mono (hg _ _ _ _ _ s2 σ' H2' x u _ I2' r2 (step x H2' y2)) (fun _ s3 ⟨σ3,H3,I3,q3⟩=>?_) fun _ _ z=>z
   refine wpAny_mono (ht _ _ _ _ _ s3 σ3 H3 _ I3 q3) (fun ok s4 ⟨H4,I4,q4⟩=>?_) fun _ _ z=>z
   have back:∀ {s5:Shared}{H5:Hp},Inv (eN X N scope H2.objs.size fp s H) ([(s.heap.objs.size,yS ys k)]++jB fp s2.heap) σ3 H5 s5->tn (i + 1) s5.heap∧∀ b∈fp,H5 b=none:=fun {s5 H5} I5 =>
    ⟨T.keep _ _ _ st2 fun b hb o e=>(I5.pin (b,o) (List.mem_append_right _ (List.mem_append_right _ (eC hb e)))).1,fun b hb=>by
     obtain ⟨o,e,d⟩:=T.obj _ _ st2 b hb
     exact (I5.pin (b,o) (List.mem_append_right _ (List.mem_append_right _ (eC hb e)))).2.1⟩
   cases ok with
   | false =>
     rw [if_neg Bool.false_ne_true] at q4 ⊢
     obtain ⟨m',hm,w4⟩:=q4
     exact ⟨m',hm,i + 1,σ3,H4,xs,ys,k,I4.unpinned,(back I4).1,(back I4).2,rv,w4⟩
   | true =>
     rw [if_pos rfl] at q4 ⊢
     refine wpAny_mono (he _ _ _ _ _ s4 σ3 H4 _ I4 q4) (fun v s5 ⟨y,H5,I5,r5,m',hm,w5⟩=>?_) fun _ _ z=>z
     obtain ⟨p1,p2,_⟩:=I5.pin (s.heap.objs.size,yS ys k) (List.mem_append_right _ (List.mem_append_left _ (by simp)))
     obtain ⟨st5,fr5⟩:=back I5
     refine append_at (its:=ys.toArray) p1 (fun h' sb hD=>?_) (by rw [List.size_toArray,← rv.length]; exact Nat.le_of_lt hz)
     have I6:Inv (eN X N scope H2.objs.size fp s H) [] σ3 H5 { s5 with heap:=h' }:=cX (I5.pins_of (pins':=[]) fun p hp=>absurd hp (by simp)) (dOk p2) sb
     refine ⟨m',hm,i + 1,σ3,H5,xs++[y],ys++[v],k + 1,pinD I6 p2 ?_,T.keep _ _ _ st5 fun b hb o e=>(sb.2 b fun z=>dfp (z ▸ hb)).trans e,fr5,rv.append (.cons r5 .nil),w5⟩
     rw [hD]
     show some _=some (yS (ys++[v]) (k + 1))
     rw [yS,← List.push_toArray]
 exact codeAny_compStart_list (loop _ rfl) (T.self X.A 0 _ _ _ (T.keep _ _ _ st fun b _ o e=>old b o e) (loop _ rfl))
def AC (wi:TI)(g:TG)(tt:TT)(te:TE)(nl:Nat)(js:List Nat):TE:=fun σ H Q=>wi σ H fun J H1 =>
 ∃ W:Nat->Nat->List V->St->Hp->Prop,(∃ m,W 0 m [] (σC nl js σ) H1)∧iR J g tt te W fun xs H'=>∀ D,H' D=none->Q (.ref D) (upd H' D (.lst xs))
theorem jT {pins:List (Addr × Obj)}{σ:St}{H:Hp}{s:Shared}(S:CompOk X N nl js osc scope)(I:Inv X pins σ H s):closureFor scope X.env=pure (fb scope.names X.env):=kY fun y hy hf=>by
 have z:=S.free y hy hf
 rw [← S.out] at z
 exact I.ok.has y.1 z
theorem dJ {wi:TI}{g:TG}{tt:TT}{te:TE}(S:CompOk X N nl js osc scope)(hc:X.calm=true)(hi:PI X tg iter wi)(hg:∀ C fp s H,PG (eN X N scope C fp s H) tg g)(ht:∀ C fp s H,Dp (eN X N scope C fp s H) ifs tt)
 (he:∀ C fp s H,PE (eN X N scope C fp s H) elt te)(hs:∀ x,foldedSetIterable iter X.env x=pure x:=by intro _; rfl):
 PE X (.ListComp elt [⟨tg,iter,ifs,0⟩] scope pos) (AC wi g tt te nl js):=by
 intro pins s σ H Q I h
 rw [eval_ListComp]
 refine wpAny_comprehension_free (use:=none) rfl hs (jT S I) S.kind S.names (bH (hi pins s σ H _ I h) fun v s1 h1=>bH h1 fun itv s2 h2=>?_)
 obtain ⟨it,fp,tn,J,H2,e,I2,T,st2,f2,W,w0,hW⟩:=h2
 subst e
 refine jZ (RR:=fun acc C=>compPost (model X.prog X.w) X.A X.xe none (EP X pins σ Q) acc C) S hc hg ht he I2 T st2 f2 w0 hW ?_
 intro D C H' s' xs m I3 hD hn fC fin
 exact ⟨m,hn,fun h' sb=>⟨.ref D,_,cX I3 fC sb,rfl,fin D hD⟩⟩
theorem mQ {i:Nat}{y:Str}{py spos:Pos}{wi:TI}{g:TG}{tt:TT}{te:TE}(S:CompOk X N nl js osc scope)(hc:X.calm=true)(hN:X.N.Nodup)(hy:X.N[i]?=some y)(hl:CB X.env.scope y)(hi:PI X tg iter wi)
 (hg:∀ C fp s H,PG (eN X N scope C fp s H) tg g)(ht:∀ C fp s H,Dp (eN X N scope C fp s H) ifs tt)(he:∀ C fp s H,PE (eN X N scope C fp s H) elt te)
 (hsw:swapsWith (.ListComp elt [⟨tg,iter,ifs,0⟩] scope pos) (some (.Name y py)) spos.line X.env=pure true)(hs:∀ x,foldedSetIterable iter X.env x=pure x:=by intro _; rfl)
 (hf:X.fn y=true∨X.env.scope.names.lookup y=some .local:=by first | exact .inl rfl | exact .inr rfl | assumption):
 PS X (.Assign [.Name y py] (.ListComp elt [⟨tg,iter,ifs,0⟩] scope pos) spos) (oO (AC wi g tt te nl js) (bZ i)):=by
 intro pins s σ H D I h
 rw [exec_Assign_Name_used _ _ _ _ hsw]
 refine wpAny_bind (wpAny_standAt (wpAny_bind ?_))
 show wpAny _ X.A (do let _ ← comprehension (.ListComp elt [⟨tg,iter,ifs,0⟩] scope pos) scope X.env _ (newList []) false (eval iter X.env) (some (assign (.Name y py) X.env))) _ _ s
 refine wpAny_bind (wpAny_mono (wpAny_comprehension_free (use:=some (assign (.Name y py) X.env)) (Q:=fun _ s'=>SP X pins D .next s') rfl hs (jT S I) S.kind S.names
  (bH (hi pins s σ H _ I h) fun v s1 h1=>bH h1 fun itv s2 h2=>?_)) (fun _ s' hq=>wpAny_pure (wpAny_pure hq)) fun _ _ e=>e)
 obtain ⟨it,fp,tn,J,H2,e,I2,T,st2,f2,W,w0,hW⟩:=h2
 subst e
 refine jZ (RR:=fun acc C=>compPost (model X.prog X.w) X.A X.xe (some (assign (.Name y py) X.env)) (fun _ s'=>SP X pins D .next s') acc C) S hc hg ht he I2 T st2 f2 w0 hW ?_
 intro Dd C H' s' xs m I3 hD hn fC fin
 show wpAny _ X.A (assign (.Name y py) X.env (.ref Dd)) _ _ _
 refine wpAny_assign_Name (lV I3 hN hy hl (show aE (.ref Dd) (.ref Dd) from rfl) (fun s4 I4 ⟨a,sb,ha⟩=>?_) hf)
 refine ⟨m,hn.sameBut sb ?_,fun h' sb'=>⟨_,_,cX I4 fC sb',fin Dd hD⟩⟩
 rcases ha with z | z
 ·rw [z]; exact fC.2.1
 ·exact fun q=>fC.2.2.2.2.1 _ _ z q.symm
end
open PySem.W
def E8 (h B:Heap)(e:Addr)(cls a0 fl:Value)(d:Option Addr):Prop :=
 ∃ (o:Obj)(vs:Array Value)(T:Addr)(oT:Obj)(ts:Array Value),h.get? e=some o∧o.dict=d∧(o.cls=cls∧vs[0]?=some a0)∧o.data = .fields vs∧vs[1]?=some (.ref T)∧B.get? T=none∧T≠e∧h.get? T=some oT∧oT.data = .fields ts∧ts[3]?=some fl
structure FlyD (B:Heap)(l:List Env)(e:Addr)(cls a0 fl:Value)(d:Option Addr)(h:Heap):Prop where
 st:B.StaysIn h
 new:B.get? e=none
 fr:h.FunFrames B l
 tr:E8 h B e cls a0 fl d
section
variable {M:Model}{A:Around}{E:Value->Shared->Prop}{s:Shared}{B:Heap}{env:Env}{outer:List Env}{L e:Addr}{cls a0:Value}{d:Option Addr}{Q:Unit->Shared->Prop}
theorem rH {o:Obj}{vs:Array Value}{hd:Value}{nx:Bool}(hfr:A.frames=some (env :: outer))(fr:s.heap.FunFrames B (env :: outer))(hf:env.frame=some L)(st:B.StaysIn s.heap)(new:B.get? e=none)
 (he:s.heap.get? e=some o)(hdd:o.dict=d)(hc:o.cls=cls)(hv:o.data = .fields vs)(h1:1 < vs.size)(h0:vs[0]?=some a0)
 (h:∀ h',FlyD B (env :: outer) e cls a0 (rawInt L) d h'->s.heap.UpToSlots h'->Q () { s with heap:=h' }):
 wpAny M A (do let a ← frameOf env; let pl ← entryPlaceOf L nx; let b ← EntryCells.newEntry hd a .none (rawInt L) .none pl; setField (.ref e) 1 b) Q E s:=by
 have nf:e ∉ (env :: outer).filterMap (·.frame):=fun m=>by
  obtain ⟨_,o',ho',q⟩:=fr.mem m
  rw [he] at ho'; cases ho'; exact q vs hv
 refine wpAny_bind (wpAny_frameOf_fun hfr fr hf fun g sl=>wpAny_bind (wpAny_entryPlaceOf fun pl hpl=>?_))
 unfold EntryCells.newEntry newFields
 refine wpAny_bind (wpAny_newObj_type ?_ (hpl.sizeOk5 _ _ _ _ _))
 have e1:g.get? e=some o:=(sl.2.1 e nf).trans he
 have st1:B.StaysIn g:=fun b ob q=>(sl.2.1 b fun m=>by rw [(fr.mem m).1] at q; cases q).trans (st b ob q)
 have ne:g.objs.size≠e:=Nat.ne_of_gt (Heap.lt_size e1)
 have dv:=Obj.data_mapFields hv (·.setIfInBounds 1 (Value.ref g.objs.size))
 have kp:∀ (oT:Obj) b ob,b≠e->g.get? b=some ob->((g.push oT).update e (Obj.mapFields (·.setIfInBounds 1 (Value.ref g.objs.size)))).get? b=some ob:=fun oT b ob hb q =>
  (Heap.get?_update_other _ _ (Ne.symm hb)).trans (Heap.get?_push_of_some _ q)
 have nr:∀ b ob,s.heap.get? b=some ob->(∀ ws,ob.data ≠ .fields ws)->b≠e:=fun b ob q hn z=>by rw [z,he] at q; cases q; exact hn vs hv
 refine wpAny_setField (Heap.get?_push_of_some _ e1) hv h1 (h _ ⟨fun b ob q=>kp _ b ob (fun z=>by rw [z,new] at q; cases q) (st1 b ob q),new,fr.of_keeps fun b ob q hn=>?_,?_⟩ fun b ob q hn=>?_)
 ·obtain ⟨z,q1⟩:=sl.2.2 b ob q
  exact ⟨_,kp _ b _ (nr b ob q hn) q1,rfl⟩
 ·refine ⟨_,_,g.objs.size,_,_,Heap.get?_update_self _ (Heap.get?_push_of_some _ e1) (Obj.isFreed_of_fields dv),?_,⟨(Obj.cls_mapFields _ _).trans hc,by rw [Array.getElem?_setIfInBounds_ne (by decide)]; exact h0⟩,dv,by simp [h1],st1.fresh,ne,
   (Heap.get?_update_other _ _ (Ne.symm ne)).trans (Heap.get?_push_size g rfl),rfl,by first | (simp; done) | (rcases hpl with rfl | ⟨_,_,_,_,_,_,_,rfl⟩ <;> simp)⟩
  rw [← hdd]
  cases o
  dsimp only at hv
  subst hv
  rfl
 ·obtain ⟨z,q1⟩:=sl.2.2 b ob q
  exact ⟨z,kp _ b _ (nr b ob q hn) q1⟩
theorem wx (hfr:A.frames=some (env :: outer))(hf:env.frame=some L)(x:FlyD B (env :: outer) e cls a0 .none d s.heap)
 (h:∀ h',FlyD B (env :: outer) e cls a0 (rawInt L) d h'->s.heap.UpToSlots h'->Q () { s with heap:=h' }):wpAny M A (noteFrame (.ref e) env) Q E s:=by
 obtain ⟨o,vs,T,oT,ts,he,hdd,⟨hc,h0⟩,hv,h1,nT,Te,hT,hvT,h3⟩:=x.tr
 unfold noteFrame
 simp only [hf]
 refine wpAny_bind (wpAny_field he hv h1 ?_)
 rw [if_pos (by simp)]
 refine wpAny_bind (wpAny_field hT hvT h3 ?_)
 rw [if_neg (by simp [rawInt])]
 refine wpAny_bind (wpAny_setField hT hvT (Array.getElem?_eq_some_iff.mp h3).1 ?_)
 have ot:∀ b,b≠T->(s.heap.update T (Obj.mapFields (·.setIfInBounds 3 Value.none))).get? b=s.heap.get? b:=fun b hb=>Heap.get?_update_other _ _ (Ne.symm hb)
 have nr:∀ b ob,s.heap.get? b=some ob->(∀ ws,ob.data ≠ .fields ws)->b≠T:=fun b ob q hn z=>by rw [z,hT] at q; cases q; exact hn ts hvT
 refine rH (s:={ s with heap:=s.heap.update T (Obj.mapFields (·.setIfInBounds 3 Value.none)) }) hfr (x.fr.of_keeps fun b ob q hn=>⟨ob,(ot b (nr b ob q hn)).trans q,rfl⟩) hf (fun b ob q=>(ot b fun z=>by rw [z,nT] at q; cases q).trans (x.st b ob q)) x.new
  ((ot e (Ne.symm Te)).trans he) hdd hc hv (Array.getElem?_eq_some_iff.mp h1).1 h0 fun h' y up=>h h' y fun b ob q hn=>up b ob ((ot b (nr b ob q hn)).trans q) hn
theorem xM {o:Obj}{vs:Array Value}(hfr:A.frames=some (env :: outer))(fr:s.heap.FunFrames B (env :: outer))(hf:env.frame=some L)(st:B.StaysIn s.heap)(new:B.get? e=none)
 (he:s.heap.get? e=some o)(hdd:o.dict=d)(hc:o.cls=cls)(hv:o.data = .fields vs)(h1:vs[1]?=some .none)(h0:vs[0]?=some a0)
 (h:∀ h',FlyD B (env :: outer) e cls a0 (rawInt L) d h'->s.heap.UpToSlots h'->Q () { s with heap:=h' }):wpAny M A (noteFrame (.ref e) env) Q E s:=by
 unfold noteFrame
 simp only [hf]
 refine wpAny_bind (wpAny_field he hv h1 ?_)
 rw [if_neg (by decide)]
 exact rH hfr fr hf st new he hdd hc hv (Array.getElem?_eq_some_iff.mp h1).1 h0 h
theorem gO {l:List Env}{fl:Value}(x:FlyD B l e cls a0 fl d s.heap)(h:∀ h',FlyD B l e cls a0 .none d h'->s.heap.UpToSlots h'->Q () { s with heap:=h' }):wpAny M A (setFlight (.ref e) none) Q E s:=by
 obtain ⟨o,vs,T,oT,ts,he,hdd,hc,hv,h1,nT,Te,hT,hvT,h3⟩:=x.tr
 have z3:3 < ts.size:=(Array.getElem?_eq_some_iff.mp h3).1
 have ot:∀ b,b≠T->(s.heap.update T (Obj.mapFields (·.setIfInBounds 3 Value.none))).get? b=s.heap.get? b:=fun b hb=>Heap.get?_update_other _ _ (Ne.symm hb)
 have nr:∀ b ob,s.heap.get? b=some ob->(∀ ws,ob.data ≠ .fields ws)->b≠T:=fun b ob q hn z=>by rw [z,hT] at q; cases q; exact hn ts hvT
 unfold setFlight
 refine wpAny_bind (wpAny_field he hv h1 ?_)
 rw [if_pos (by simp)]
 refine wpAny_setField hT hvT z3 (h _ ⟨fun b ob q=>(ot b fun z=>by rw [z,nT] at q; cases q).trans (x.st b ob q),x.new,x.fr.of_keeps fun b ob q hn=>⟨ob,(ot b (nr b ob q hn)).trans q,rfl⟩,?_⟩ fun b ob q hn=>⟨ob.slots,(ot b (nr b ob q hn)).trans q⟩)
 exact ⟨o,vs,T,_,_,(ot e (Ne.symm Te)).trans he,hdd,hc,hv,h1,nT,Te,Heap.get?_update_self _ hT (Obj.isFreed_of_fields (Obj.data_mapFields hvT _)),Obj.data_mapFields hvT _,by simp [z3]⟩
theorem FlyD.out {h:Heap}{fl:Value}(x:FlyD B (env :: outer) e cls a0 fl d h):FlyD B outer e cls a0 fl d h:=⟨x.st,x.new,x.fr.2.2,x.tr⟩
theorem zS (hfr:A.frames=some (env :: outer))(hf:env.frame=some L)(x:FlyD B (env :: outer) e cls a0 .none d s.heap)
 (h:∀ h',FlyD B outer e cls a0 .none d h'->s.heap.UpToSlots h'->Q () { s with heap:=h' }):wpAny M A (leaving env (.ref e)) Q E s:=by
 unfold leaving
 exact wpAny_bind (wx hfr hf x fun g y up=>gO (s:={ s with heap:=g }) y fun g2 y2 up2=>h g2 y2.out (up.trans up2))
theorem lJ {o:Obj}{vs:Array Value}(hfr:A.frames=some (env :: outer))(fr:s.heap.FunFrames B (env :: outer))(hf:env.frame=some L)(st:B.StaysIn s.heap)(new:B.get? e=none)
 (he:s.heap.get? e=some o)(hdd:o.dict=d)(hc:o.cls=cls)(hv:o.data = .fields vs)(h1:vs[1]?=some .none)(h0:vs[0]?=some a0)
 (h:∀ h',FlyD B outer e cls a0 .none d h'->s.heap.UpToSlots h'->Q () { s with heap:=h' }):wpAny M A (leaving env (.ref e)) Q E s:=by
 unfold leaving
 exact wpAny_bind (xM hfr fr hf st new he hdd hc hv h1 h0 fun g y up=>gO (s:={ s with heap:=g }) y fun g2 y2 up2=>h g2 y2.out (up.trans up2))
end
theorem bc.there {P:Program}{w:World}{H:Hp}{h:Heap}{a:Addr}{o:HO}(x:bc P w H h a o):∃ ob,h.get? a=some ob:=by
 cases o with
 | lst xs=>obtain ⟨_,_,_,_,e⟩:=x; exact ⟨_,e⟩
 | tup xs=>obtain ⟨_,_,_,ob,e,_⟩:=x; exact ⟨_,e⟩
 | dK kvs=>obtain ⟨_,_,_,_,o,_,_,e,_⟩:=x; exact ⟨_,e⟩
 | dT kvs=>obtain ⟨_,_,_,_,o,_,_,e,_⟩:=x; exact ⟨_,e⟩
 | set S n=>obtain ⟨o,_,_,_,e,_⟩:=x; exact ⟨_,e⟩
 | ins C dx fs=>obtain ⟨_,_,_,e,_⟩:=x; exact ⟨_,e⟩
 | own y=>obtain ⟨_,e⟩:=x; exact ⟨_,e⟩
 | xd fs=>obtain ⟨_,⟨_,_,_,e,_⟩,_⟩:=x; exact ⟨_,e⟩
 | rng lo hi=>obtain ⟨_,_,_,e⟩:=x; exact ⟨_,e⟩
 | frz ob u=>obtain ⟨e,_⟩:=x; exact ⟨_,e⟩
 | tbl ps=>exact ⟨_,(show h.get? a=some _ from x)⟩
 | met f y=>exact ⟨_,(show h.get? a=some _ from x)⟩
 | ext φ=>obtain ⟨_,⟨_,e⟩,_⟩:=x; exact ⟨_,e⟩
structure Flies (P:Program)(w:World)(l:List Env)(H₀:Hp)(h₀:Heap)(a:Addr)(cls:Value)(H:Hp)(h:Heap)(B:Heap)(a0:Value)(d:Option Addr):Prop where
 fly:FlyD B l a cls a0 .none d h
 un:Un (di l) [] H₀ H h₀ h
 keep:∀ b o,h₀.get? b=some o->H₀ b=none->b ∉ di l->B.get? b=some o
 there:∀ b o,h₀.get? b=some o->b ∉ di l->∃ o',B.get? b=some o'
 hok:eK P w H B
 new:H a=none
def bz (P:Program)(w:World):CXT:=fun outer H₀ s₀ E e s'=>∃ (a:Addr)(cls a0:Value)(B:Heap)(d:Option Addr)(H:Hp),e = .ref a∧s'.os=s₀.os∧AllBare s'.gens∧Flies P w outer H₀ s₀.heap a cls H s'.heap B a0 d∧E cls d H
section
variable {X:Cx}{pins:List (Addr × Obj)}{σ:St}{H H':Hp}{s s':Shared}{P:Program}{w:World}
theorem b7 {h base:Heap}{l:List Env}(F:h.FunFrames base l){b:Addr}{o:Obj}(hb:b∈di l)(e:h.get? b=some o):∀ vs,o.data ≠ .fields vs:=by
 obtain ⟨_,o',e',d⟩:=F.mem hb
 rw [e] at e'
 cases e'
 exact d
theorem qv {outer:List Env}{h' h'' B:Heap}{e t:Addr}{cls:Value}{args:List Value}{d:Option Addr}(I:Inv X pins σ H s)(hex:X.ex=[])(hst:X.stack=X.env :: X.outer)(hm:Heap.MadeExcOf s.heap h' e cls args)
 (hB:B=PySem.W.hideAll s.heap (di X.stack))(hf:FlyD B X.outer e cls (.ref t) .none d h'')(hsm:h'.UpToSlots h''):Flies X.prog X.w X.outer X.H₀ X.s₀.heap e cls H h'' B (.ref t) d:=by
 subst hB
 have st:=hf.st
 have inB:∀ b o,s.heap.get? b=some o->b ∉ di X.stack->(PySem.W.hideAll s.heap (di X.stack)).get? b=some o:=fun b o e n=>PySem.W.hideAll_get _ e n
 have old:∀ b o,X.s₀.heap.get? b=some o->b ∉ di X.outer->b ∉ di X.stack:=fun b o e n z=>by
  rcases List.mem_cons.mp (I.stkSub b z) with q | q
  ·exact absurd (Nat.lt_of_lt_of_le (Heap.lt_size e) I.ok.above) (by rw [q]; exact Nat.lt_irrefl _)
  ·exact n q
 have base:Un (di X.outer) [] X.H₀ H X.s₀.heap s.heap:=by
  have z:=I.base
  rw [hex] at z
  exact z
 refine ⟨hf,⟨fun b o e n hb _=>st b o (inB b o (base.keep b o e n hb (by simp)) (old b o e hb)),fun b o e n hb _=>?_,base.free,fun b o e _=>?_,base.tups,base.frzs,base.tbls⟩,fun b o e n hb=>inB b o (base.keep b o e n hb (by simp)) (old b o e hb),fun b o e hb=>?_,fun b u e=>?_,?_⟩
 ·obtain ⟨sl,e1⟩:=base.slot b o e n hb (by simp)
  obtain ⟨sl',e2⟩:=hsm b _ (hm.keeps b _ e1) (b7 I.funs hb e1)
  exact ⟨sl',e2⟩
 ·obtain ⟨o',e1⟩:=base.there b o e (by simp)
  by_cases hb:b∈di X.outer
  ·obtain ⟨sl',e2⟩:=hsm b _ (hm.keeps b _ e1) (b7 I.funs hb e1)
   exact ⟨_,e2⟩
  ·exact ⟨o',st b o' (inB b o' e1 (old b o e hb))⟩
 ·obtain ⟨o',e1⟩:=base.there b o e (by simp)
  exact ⟨o',inB b o' e1 (old b o e hb)⟩
 ·exact (I.hok b u e).stay (fun c v hc q=>inB c v q fun z=>by
   have n:=I.stkFree c z
   rcases hc with hc | hc
   ·rw [hc,e] at n; cases n
   ·rw [n] at hc; cases hc) (fun _ q=>q) fun _ _ q=>q
 ·cases q:H e with
  | none=>rfl
  | some u =>
    obtain ⟨ob,e1⟩:=(I.hok e u q).there
    rw [hm.new] at e1
    cases e1
theorem yh {h'' B:Heap}{a:Addr}{cls a0:Value}{d:Option Addr}(I:Inv X pins σ H s)(hex:X.ex=[])(F:Flies X.prog X.w X.stack H s.heap a cls H' s'.heap B a0 d)
 (hf:FlyD B X.outer a cls a0 .none d h'')(hsm:s'.heap.UpToSlots h''):Flies X.prog X.w X.outer X.H₀ X.s₀.heap a cls H' h'' B a0 d:=by
 have st:=hf.st
 have sub:∀ b,b∈di X.outer->b∈di X.stack:=fun b hb=>by
  rcases I.ok.stk with z | ⟨z,hfr⟩
  ·rw [z]; exact hb
  ·rw [z]; unfold di; rw [List.filterMap_cons,hfr]; exact List.mem_cons_of_mem _ hb
 have old:∀ b o,X.s₀.heap.get? b=some o->b ∉ di X.outer->b ∉ di X.stack:=fun b o e n z=>by
  rcases List.mem_cons.mp (I.stkSub b z) with q | q
  ·exact absurd (Nat.lt_of_lt_of_le (Heap.lt_size e) I.ok.above) (by rw [q]; exact Nat.lt_irrefl _)
  ·exact n q
 have base:Un (di X.outer) [] X.H₀ H X.s₀.heap s.heap:=by
  have z:=I.base
  rw [hex] at z
  exact z
 have kB:∀ b o,X.s₀.heap.get? b=some o->X.H₀ b=none->b ∉ di X.outer->B.get? b=some o:=fun b o e n hb =>
  F.keep b o (base.keep b o e n hb (by simp)) (base.free b o e n (by simp)) (old b o e hb)
 have tB:∀ b o,X.s₀.heap.get? b=some o->b ∉ di X.outer->∃ o',B.get? b=some o':=fun b o e hb=>by
  obtain ⟨o',e1⟩:=base.there b o e (by simp)
  exact F.there b o' e1 (old b o e hb)
 have sl2:∀ b o,s.heap.get? b=some o->H b=none->b∈di X.outer->∃ sl,h''.get? b=some { o with slots:=sl }:=fun b o e n hb=>by
  obtain ⟨sl,e1⟩:=F.un.slot b o e n (sub b hb) (by simp)
  obtain ⟨sl',e2⟩:=hsm b _ e1 (fun vs q=>b7 I.funs hb e vs q)
  exact ⟨sl',e2⟩
 refine ⟨hf,⟨fun b o e n hb _=>st b o (kB b o e n hb),fun b o e n hb _=>?_,fun b o e n _=>?_,fun b o e _=>?_,fun b xs e=>F.un.tups b xs (base.tups b xs e),fun b o xs e=>F.un.frzs b o xs (base.frzs b o xs e),fun b ps e=>?_⟩,kB,tB,F.hok,F.new⟩
 ·obtain ⟨sl,e1⟩:=base.slot b o e n hb (by simp)
  obtain ⟨sl',e2⟩:=sl2 b _ e1 (base.free b o e n (by simp)) hb
  exact ⟨sl',e2⟩
 ·obtain ⟨o',e1⟩:=base.there b o e (by simp)
  exact F.un.free b o' e1 (base.free b o e n (by simp)) (by simp)
 ·by_cases hb:b∈di X.outer
  ·obtain ⟨o',e1⟩:=base.there b o e (by simp)
   have n:H b=none:=I.stkFree b (sub b hb)
   obtain ⟨sl,e2⟩:=sl2 b o' e1 n hb
   exact ⟨_,e2⟩
  ·obtain ⟨o',e1⟩:=tB b o e hb
   exact ⟨o',st b o' e1⟩
 ·obtain ⟨m1,e1⟩:=base.tbls b ps e
  obtain ⟨m2,e2⟩:=F.un.tbls b _ e1
  exact ⟨m1++m2,by rw [e2,Array.append_assoc]⟩
theorem jw {h'' B:Heap}{a:Addr}{cls a0 fl:Value}{d:Option Addr}{tk:Nat}(I:Inv X pins σ H s)(ho:s'.os=s.os)(hg:AllBare s'.gens)(F:Flies X.prog X.w X.stack H s.heap a cls H' s'.heap B a0 d)
 (hf:FlyD B X.stack a cls a0 fl d h'')(hsm:s'.heap.UpToSlots h''):Inv X pins σ H' { s' with heap:=h'',toks:=tk }:=by
 have st:=hf.st
 refine I.call' (s':={ s' with heap:=h'',toks:=tk }) (ch:=[]) ho ⟨fun b o e n hb _=>st b o (F.keep b o e n hb),fun b o e n hb _=>?_,F.un.free,fun b o e _=>?_,F.un.tups,F.un.frzs,F.un.tbls⟩ (F.hok.kept st) hg fun b z=>absurd z (by simp)
 ·obtain ⟨sl,e1⟩:=F.un.slot b o e n hb (by simp)
  obtain ⟨sl',e2⟩:=hsm b _ e1 (fun vs q=>b7 I.stack hb e vs q)
  exact ⟨sl',e2⟩
 ·by_cases hb:b∈di X.stack
  ·obtain ⟨sl,e1⟩:=F.un.slot b o e (I.stkFree b hb) hb (by simp)
   obtain ⟨sl',e2⟩:=hsm b _ e1 (fun vs q=>b7 I.stack hb e vs q)
   exact ⟨_,e2⟩
  ·obtain ⟨o',e1⟩:=F.there b o e hb
   exact ⟨o',st b o' e1⟩
end
theorem Ap {K:PySem.W.Frag}{h:Heap}{C:Addr}{bmB:List Value}{newId:String}(X:K.In h)(q:PySem.W.excIn K C bmB newId=true):
 ∃ bm N nm qn bs hd sn sub ab col dd k0 k1 k2 k3 k5 mN,h.get? C=some (excClassObj nm qn C N bs bm hd sn sub ab col dd k0 k1 k2 k3 k5 newId)∧h.Ns N mN∧mN "__init__"=none∧OwnTail h bmB bm:=by
 unfold PySem.W.excIn at q
 split at q
 ·rename_i dd cd sl ho
  split at q
  ·rename_i C' bm k0 k1 k2 k3 n k5 hm hs
   simp only [Bool.and_eq_true,beq_iff_eq,Bool.not_eq_true'] at q
   obtain ⟨⟨⟨⟨⟨rfl,rfl⟩,hdel⟩,ht⟩,hok⟩,hni⟩:=q
   obtain ⟨nm,bs,mro,ns,qn,hd,sn,sub,ab,col,v9⟩:=cd
   dsimp only at hm hdel hok hni
   subst hm hdel
   have hsl:sl = #[k0,k1,k2,k3,some (.builtin n),k5]:=by
    obtain ⟨l⟩:=sl
    simp only at hs
    rw [hs]
   subst hsl
   exact ⟨bm,ns,nm,qn,bs,hd,sn,sub,ab,col,dd,k0,k1,k2,k3,k5,_,X _ _ ho,.of_isNs (PySem.W.isNs_of_in X hok),PySem.W.nsMap_none_of_in X hok hni,PySem.W.tail_of_in X ht⟩
  ·cases q
 ·cases q
def wA (X:Cx)(E:St->XK):Prop:=∀ (pins:List (Addr × Obj))(σ:St)(H:Hp)(s:Shared)(h':Heap)(e:Addr)(cls:Value)(args:List Value),Inv X pins σ H s->Heap.MadeExcOf s.heap h' e cls args->E σ cls none H->X.xe (.ref e) { s with heap:=h' }
def Co (C:Addr)(E:St->XK)(t:TA):TS:=fun _ σ H=>t σ H fun vs H1=>vs.length≤sizeLine∧E σ (.ref C) none H1
section
variable {X:Cx}{E:St->XK}{x:Str}{C:Addr}{B newId initId:String}{bmB:List Value}{np cpos pos:Pos}{e:Expr}{es:List Expr}{t:TA}
theorem ya (FB:ExcBaseFacts B newId initId bmB)(q:PySem.W.excIn X.K C bmB newId=true)(hc:X.calm=true)(hR:wA X E)(hg:Gl X x)(hm:X.mg x=some (.ref C))(ha:PA X (e :: es) t)
 (he:starEach (e :: es) X.env=(false,eval e X.env):: starEach es X.env:=by rfl)(hpl:(backTo cpos (starEach es X.env)).any (·.1)=false:=by rfl)(hd:(x == ("__debug__":Str))=false:=by decide):
 PS X (.Raise (some (.Call (.Name x np) (e :: es) [] cpos)) none pos) (Co C E t):=by
 intro pins s σ H D I h
 obtain ⟨bm,N,nm,qn,bs,hdct,sn,sub,ab,col,dd,k0,k1,k2,k3,k5,mN,hC,hN,hni,T⟩:=Ap I.ok.mod.kin q
 refine wpAny_Raise_call_subT (C:=C) (nm:=nm) (q:=qn) (N:=N) (bs:=bs) (bm:=bm) (hdct:=hdct) (sn:=sn) (sub:=sub) (ab:=ab) (col:=col) (dd:=dd) (k0:=k0) (k1:=k1) (k2:=k2) (k3:=k3) (k5:=k5)
  FB (mN:=mN) (T.hasType FB.hasBase) (I.ok.hd hc) (by rw [he]; show (false || (backTo cpos (starEach es X.env)).any (·.1))=false; rw [hpl]; rfl) hni (c4 I hg hm ⟨rfl,?_⟩ hd)
 have z:=ha cpos pins s σ H _ I h
 rw [he] at z ⊢
 refine Calls.evalArgs_plain (wpAny_mono z (fun us s₂ ⟨vs,H2,I2,rv,hl,hE⟩=>?_) fun _ _ y=>y)
 exact ⟨rfl,by rw [← rv.length]; exact hl,I2.bk _ _ hC,hN.keeps I2.bk,T.keeps I2.bk,fun h' e' hm'=>hR pins σ H2 s₂ h' e' _ _ I2 hm' hE⟩
end
section
variable {P:Program}{w:World}{K:PySem.W.Frag}{mg:Str->Option Value}{base:Heap}{N:List Str}{qual:Str}{scope:Scope}{f:Addr}{cd:Value}{A:Around}{outer:List Env}{s:Shared}{H:Hp}{E:XK}
theorem rq:wA (dE (bz P w) P w K mg base N qual scope f cd A outer s H E) fun _=>E:=by
 intro pins σ H1 s1 h' e cls args I hm hE
 have hst:(dE (bz P w) P w K mg base N qual scope f cd A outer s H E).stack=(dE (bz P w) P w K mg base N qual scope f cd A outer s H E).env :: outer:=rfl
 have hl:=I.stack
 obtain ⟨t,he,htn,ht⟩:=hm.there
 have hB:∀ b o,(PySem.W.hideAll s1.heap (di (dE (bz P w) P w K mg base N qual scope f cd A outer s H E).stack)).get? b=some o->s1.heap.get? b=some o:=fun b o q=>PySem.W.of_hideAll _ q
 have nB:(PySem.W.hideAll s1.heap (di (dE (bz P w) P w K mg base N qual scope f cd A outer s H E).stack)).get? e=none:=by
  cases q:(PySem.W.hideAll s1.heap (di (dE (bz P w) P w K mg base N qual scope f cd A outer s H E).stack)).get? e with
  | none=>rfl
  | some o=>have z:=hB _ _ q; rw [hm.new] at z; cases z
 have fr1:=PySem.W.funFrames_hide hl fun env he a ha=>List.mem_filterMap.mpr ⟨env,he,ha⟩
 refine lJ (B:=PySem.W.hideAll s1.heap (di (dE (bz P w) P w K mg base N qual scope f cd A outer s H E).stack)) (s:={ s1 with heap:=h' }) (d:=none) (cls:=cls) (a0:=.ref t) I.ok.frames (fr1.of_keeps fun b o q _=>⟨o,hm.keeps b o q,rfl⟩) rfl
  (fun b o q=>hm.keeps b o (hB b o q)) nB he rfl rfl rfl rfl rfl fun h'' x1 x4=>?_
 exact ⟨e,cls,.ref t,_,none,H1,rfl,I.os,I.bare,qv (outer:=outer) I rfl rfl hm rfl x1 x4,hE⟩
theorem qK:cM (bz P w) (dE (bz P w) P w K mg base N qual scope f cd A outer s H E) E:=by
 intro pins σ H1 s1 e s' I hx
 obtain ⟨a,cls,a0,B,d,H',rfl,ho,hg,F,hE⟩:=hx
 refine zS (L:=s.heap.objs.size) I.ok.frames rfl F.fly fun h'' x1 x2=>?_
 exact ⟨a,cls,a0,B,d,H',rfl,ho.trans I.os,hg,yh I rfl F x1 x2,hE⟩
end
theorem ah {P:Program}{w:World}{X:Cx}:cM (bz P w) X fun _ _ _=>False:=by
 intro pins σ H1 s1 e s' I hx
 obtain ⟨a,cls,a0,B,d,H',_,_,_,_,hE⟩:=hx
 exact hE.elim
def Aj (a:Addr)(cls:Value):HO:=.ext fun h=>∃ o vs,h.get? a=some o∧o.cls=cls∧o.data = .fields vs
theorem z9 {P:Program}{w:World}{H:Hp}{h:Heap}{a:Addr}{cls:Value}{o:Obj}{vs:Array Value}(e:h.get? a=some o)(hc:o.cls=cls)(hd:o.data = .fields vs):bc P w H h a (Aj a cls):=
 ⟨⟨o,vs,e,hc,hd⟩,⟨o,e⟩,fun h1 h2 ⟨o,vs,e,hc,hd⟩ k=>⟨o,vs,k o e,hc,hd⟩⟩
theorem rG {P:Program}{w:World}{H:Hp}{h:Heap}{a:Addr}{cls:Value}(k:eK P w H h)(e:H a=some (Aj a cls)):∃ o vs,h.get? a=some o∧o.cls=cls∧o.data = .fields vs:=(k a _ e).1
def dw (vs:Array Value):Prop:=∃ t:Addr,vs = #[.ref t,.none,.none,.none,.bool false,.none]
def dW (a:Addr)(cls:Value)(dx:Addr)(fr:Bool):HO:=.ext fun h=>∃ o vs,h.get? a=some o∧o.cls=cls∧o.data = .fields vs∧o.dict=some dx∧(fr=true->dw vs)
def u7 (a:Addr)(cls:Value):Option Addr->HO
 | none=>Aj a cls
 | some dx=>dW a cls dx false
theorem yQ {P:Program}{w:World}{H:Hp}{h:Heap}{a:Addr}{cls:Value}{d:Option Addr}{o:Obj}{vs:Array Value}(e:h.get? a=some o)(hc:o.cls=cls)(hd:o.data = .fields vs)(hx:o.dict=d):bc P w H h a (u7 a cls d):=by
 cases d with
 | none=>exact z9 e hc hd
 | some dx=>exact ⟨⟨o,vs,e,hc,hd,hx,fun z=>by cases z⟩,⟨o,e⟩,fun h1 h2 ⟨o,vs,e,hc,hd,hx,z⟩ k=>⟨o,vs,k o e,hc,hd,hx,z⟩⟩
theorem FlyD.first {B h:Heap}{l:List Env}{e:Addr}{cls a0 fl:Value}{d:Option Addr}(x:FlyD B l e cls a0 fl d h):∃ oe vs,h.get? e=some oe∧oe.cls=cls∧oe.data = .fields vs∧oe.dict=d :=
 let ⟨o,vs,_,_,_,h1,h2,h3,h4,_⟩:=x.tr; ⟨o,vs,h1,h3.1,h4,h2⟩
def DB (X:Cx)(pins:List (Addr × Obj))(E:St->XK):Value->Shared->Prop:=fun e s'=>∃ σ H s,Inv X pins σ H s∧bz X.prog X.w X.stack H s (E σ) e s'
abbrev Cx.tr (X:Cx)(pins:List (Addr × Obj))(E:St->XK):Cx:={ X with pn:=X.pn++pins,xe:=DB X pins E }
abbrev Cx.hd (X:Cx)(a:Addr):Cx:={ X with A:=X.A.mark (some (.ref a)),calm:=false,xe:=fun _ _=>False }
section
variable {X:Cx}{pins pins':List (Addr × Obj)}{σ:St}{H:Hp}{s:Shared}{E:St->XK}{a:Addr}
theorem Cf (I:Inv X pins σ H s):Inv (X.tr pins E) [] σ H s :=
 ⟨⟨I.ok.mod,I.ok.kind,I.ok.glob,I.ok.blt,I.ok.above,I.ok.inj,I.ok.has,I.ok.cab,I.ok.hd,I.ok.frames,I.ok.stk,I.ok.exf,I.ok.bs,I.ok.bsz,I.ok.noex,I.ok.exfs,I.ok.funs,I.ok.frf⟩,I.os,I.bare,I.base,I.loc,I.cell,I.free,I.freeC,fun p hp=>I.pin p (by
   have z:p∈(X.pn++pins)++[]:=hp
   rw [List.append_nil] at z
   exact z),I.hok,I.len⟩
theorem fm (I:Inv (X.tr pins E) pins' σ H s):Inv X pins σ H s :=
 ⟨⟨I.ok.mod,I.ok.kind,I.ok.glob,I.ok.blt,I.ok.above,I.ok.inj,I.ok.has,I.ok.cab,I.ok.hd,I.ok.frames,I.ok.stk,I.ok.exf,I.ok.bs,I.ok.bsz,I.ok.noex,I.ok.exfs,I.ok.funs,I.ok.frf⟩,I.os,I.bare,I.base,I.loc,I.cell,I.free,I.freeC,fun p hp=>I.pin p (List.mem_append_left _ hp),I.hok,I.len⟩
theorem xY (I:Inv X pins σ H s):Inv (X.hd a) pins σ H s :=
 ⟨⟨I.ok.mod,I.ok.kind,I.ok.glob,I.ok.blt,I.ok.above,I.ok.inj,I.ok.has,I.ok.cab,(fun z=>absurd (show false=true from z) (by decide)),I.ok.frames,I.ok.stk,I.ok.exf,I.ok.bs,I.ok.bsz,I.ok.noex,I.ok.exfs,I.ok.funs,I.ok.frf⟩,I.os,I.bare,I.base,I.loc,I.cell,I.free,I.freeC,I.pin,I.hok,I.len⟩
theorem gS (ok:X.Ok)(I:Inv (X.hd a) pins σ H s):Inv X pins σ H s :=
 ⟨ok,I.os,I.bare,I.base,I.loc,I.cell,I.free,I.freeC,I.pin,I.hok,I.len⟩
theorem jh {D:Ends}{f:Flow}{s':Shared}(h:SP (X.tr pins E) [] D f s'):SP X pins D f s':=by
 cases f with
 | next=>obtain ⟨σ',H',I,q⟩:=h; exact ⟨σ',H',fm I,q⟩
 | brk=>obtain ⟨σ',H',I,q⟩:=h; exact ⟨σ',H',fm I,q⟩
 | cont=>obtain ⟨σ',H',I,q⟩:=h; exact ⟨σ',H',fm I,q⟩
 | ret u=>obtain ⟨v,σ',H',I,r,q⟩:=h; exact ⟨v,σ',H',fm I,r,q⟩
theorem qx:∀ (pins':List (Addr × Obj))(σ:St)(H:Hp)(s:Shared)(e:Value)(s':Shared),Inv (X.tr pins E) pins' σ H s->bz X.prog X.w X.stack H s (E σ) e s'->(X.tr pins E).xe e s':=fun pins' σ H s e s' I hx=>⟨σ,H,s,fm I,hx⟩
def EB (K:PySem.W.Frag)(c:Value)(i:Nat)(ts:TS)(D:Ends):St->XK:=fun σ cls d H'=>PySem.W.exmOne K cls c=some true∧∀ a,H' a=none →
 ts { nx:=fun σ' H2=>D.nx (σ'.set i none) H2,rt:=D.rt,bk:=fun σ' H2=>D.bk (σ'.set i none) H2,ct:=fun σ' H2=>D.ct (σ'.set i none) H2 } (σ.set i (some (.ref a))) (upd H' a (u7 a cls d))
def Ez (K:PySem.W.Frag)(c:Value)(i:Nat)(tb:(St->XK)->TS)(ts:TS):TS:=fun D σ H=>tb (EB K c i ts D) D σ H
theorem fN {M:Model}{E':Value->Shared->Prop}{A:Around}{i:Nat}{n:Str}{pos:Pos}{Q:Unit->Shared->Prop}(I:Inv X pins σ H s)(hN:X.N.Nodup)(hi:X.N[i]?=some n)(hl:X.env.scope.names.lookup n=some .local)
 (h:∀ s',Inv X pins (σ.set i none) H s'->Q () s'):wpAny M A (do bindName X.env n .none; unbindBehindTheSuite X.env n pos) Q E' s:=by
 obtain ⟨m,hn,hloc⟩:=id I.loc
 refine wpAny_nameGoes_keeps hl hn (by rw [I.ok.kind]; rfl) fun h' v hn' hs=>h _ ?_
 have nL:∀ b o,X.s₀.heap.get? b=some o->b≠X.env.locals:=fun b o e=>Nat.ne_of_lt (Nat.lt_of_lt_of_le (Heap.lt_size e) I.ok.above)
 refine ⟨I.ok,I.os,I.bare,⟨fun b o e n hb hx=>(hs.2 b (nL b o e)).trans (I.base.keep b o e n hb hx),fun b o e n hb hx=>?_,I.base.free,fun b o e hx=>?_,I.base.tups,I.base.frzs,I.base.tbls⟩,⟨_,hn',fun j y w' e1 e2 e3=>?_⟩,fun y c e=>?_,I.free,I.freeC,fun p hp=>?_,fun b u e=>?_,by simpa using I.len⟩
 ·obtain ⟨sl,e1⟩:=I.base.slot b o e n hb hx
  exact ⟨sl,(hs.2 b (nL b o e)).trans e1⟩
 ·obtain ⟨o',e1⟩:=I.base.there b o e hx
  exact ⟨o',(hs.2 b (nL b o e)).trans e1⟩
 ·have hj:j≠i:=fun z=>by
   subst z
   by_cases hlt:j < σ.length
   ·rw [List.getElem?_set_self hlt] at e2; cases e2
   ·rw [List.getElem?_eq_none (by simpa using hlt)] at e2; cases e2
  rw [List.getElem?_set_ne (Ne.symm hj)] at e2
  obtain ⟨u,r,q⟩:=hloc j y w' e1 e2 e3
  refine ⟨u,r,?_⟩
  rcases q with ⟨k,e⟩ | ⟨k,c,e,z⟩
  ·refine .inl ⟨k,?_⟩
   have hyn:y≠n:=fun e=>hj (ka hN e1 (e ▸ hi))
   show (if y=n then v else m y)=some u
   rw [if_neg hyn]
   exact e
  ·exact .inr ⟨k,c,e,z.sameBut hs (I.cne y c e)⟩
 ·obtain ⟨w',z⟩:=I.cell y c e
  exact ⟨w',z.sameBut hs (I.cne y c e)⟩
 ·obtain ⟨e,n',ne,nf,d⟩:=I.pin p hp
  exact ⟨(hs.2 p.1 ne).trans e,n',ne,nf,d⟩
 ·refine (I.hok b u e).stay (fun c w' hc q=>(hs.2 c ?_).trans q) (fun _ q=>q) fun _ _ q=>q
  rintro rfl
  rcases hc with rfl | hc
  ·rw [I.free] at e; cases e
  ·rw [I.free] at hc; cases hc
theorem BS {x n:Str}{C:Addr}{i:Nat}{np hpos pos:Pos}{body suite:List Stmt}{b₀:Stmt}{tb:(St->XK)->TS}{ts:TS}(hst:X.stack=X.env :: X.outer)(hfr:X.env.frame=some X.env.locals)(hN:X.N.Nodup)(hi:X.N[i]?=some n)
 (hl:X.env.scope.names.lookup n=some .local)(hg:Gl X x)(hm:X.mg x=some (.ref C))(hb:∀ pins E,gB (X.tr pins E) body (tb E))(hs:∀ a,gB (X.hd a) (b₀ :: suite) ts)(hd:(x == ("__debug__":Str))=false:=by decide):
 PS X (.Try body [.ExceptHandler (some (.Name x np)) (some n) (b₀ :: suite) hpos] [] [] pos) (Ez X.K (.ref C) i tb ts):=by
 intro pins s σ H D I h
 refine wpAny_Try_except (wpAny_mono (hb pins _ [] s σ H D (Cf I) h) (fun f s1 q=>?_) fun e s1 q=>?_)
 ·cases f with
  | next=>exact wpAny_execs_nil (jh q)
  | ret v=>exact jh q
  | brk=>exact jh q
  | cont=>exact jh q
 ·obtain ⟨σ1,H1,s0,I1,a,cls,a0,B,d,H2,rfl,ho,hgn,F,hx,hw⟩:=q
  have frm:X.A.frames=some (X.env :: X.outer):=by rw [I.ok.frames,hst]
  have fl:=F.fly
  rw [hst] at fl
  refine wx frm hfr fl fun h4 held sm4=>gO (s:={ s1 with heap:=h4 }) held fun h5 fl5 sm5=>?_
  have fl5':FlyD B X.stack a cls a0 .none d h5:=by rw [hst]; exact fl5
  have I5:Inv X pins σ1 H2 { s1 with heap:=h5 }:=jw (tk:=s1.toks) I1 ho hgn F fl5' (sm4.trans sm5)
  obtain ⟨ob,_,hob,hobc,_,_⟩:=fl5.first
  have I5h:Inv (X.hd a) pins σ1 H2 { s1 with heap:=h5 }:=xY I5
  refine wpAny_handleBy_cons (codeAny_handlers_test (c4 I5h hg hm ?_ hd)) (by intro q; cases q)
  have LT:PySem.W.Looks (model X.prog X.w) h5 (typeOf (.ref a)) cls:=hobc ▸ (PySem.W.Looks.ld hob).andThen .now
  refine (PySem.W.exm_one (M:=model X.prog X.w) I5.kIn LT hx) _ _ _ _ (fun _ _ e=>e) ?_
  refine codeAny_handlers_suite_as ?_
  refine gO (s:={ s1 with heap:=h5 }) fl5 fun h6 fl6 sm6=>?_
  have fl6':FlyD B X.stack a cls a0 .none d h6:=by rw [hst]; exact fl6
  have I6:Inv X pins σ1 H2 { s1 with heap:=h6 }:=jw (tk:=s1.toks) I1 ho hgn F fl6' ((sm4.trans sm5).trans sm6)
  obtain ⟨oe,vs,hoe,hoec,hoed,hoex⟩:=fl6.first
  have I7:Inv X pins σ1 (upd H2 a (u7 a cls d)) { s1 with heap:=h6 }:=by
   have nB:X.s₀.heap.get? a=none∨True:=.inr trivial
   refine ⟨I6.ok,I6.os,I6.bare,?_,I6.loc,I6.cell,?_,?_,?_,dj I6.hok F.new (yQ hoe hoec hoed hoex),I6.len⟩
   ·refine ⟨I6.base.keep,I6.base.slot,fun b o e n hx'=>?_,I6.base.there,fun b xs e=>?_,fun b o u e=>?_,fun b ps e=>?_⟩
    ·have hne:b≠a:=fun z=>by
      subst z
      have e1:=I1.base.there b o e hx'
      obtain ⟨o1,e1⟩:=e1
      by_cases hbf:b∈di X.stack
      ·have:=(fl6'.fr.mem hbf)
       obtain ⟨_,o2,e2,d2⟩:=this
       rw [hoe] at e2
       cases e2
       exact d2 vs hoed
      ·obtain ⟨o2,e2⟩:=F.there b o1 e1 hbf
       rw [fl6'.new] at e2
       cases e2
     rw [aq hne]
     exact I6.base.free b o e n hx'
    ·rw [aq (au (I6.base.tups b xs e) F.new)]; exact I6.base.tups b xs e
    ·rw [aq (au (I6.base.frzs b o u e) F.new)]; exact I6.base.frzs b o u e
    ·obtain ⟨m,q⟩:=I6.base.tbls b ps e
     exact ⟨m,by rw [aq (au q F.new)]; exact q⟩
   ·have hne:X.env.locals≠a:=fun z=>by
     obtain ⟨m,⟨o,es,ep,e,d,_⟩,_⟩:=I6.loc
     rw [z,hoe] at e
     cases e
     rw [hoed] at d
     cases d
    rw [aq hne]
    exact I6.free
   ·intro y c e
    have hne:c≠a:=fun z=>by
     obtain ⟨v,o,e1,d⟩:=I6.cell y c e
     rw [z,hoe] at e1
     cases e1
     rw [hoed] at d
     cases d
    rw [aq hne]
    exact I6.freeC y c e
   ·intro p hp
    obtain ⟨e,n',ne,nf,d⟩:=I6.pin p hp
    refine ⟨e,?_,ne,nf,d⟩
    have hne:p.1≠a:=fun z=>by
     obtain ⟨e1,n1,_,nf1,_⟩:=I1.pin p hp
     have nst:p.1 ∉ di X.stack:=fun q=>by
      rcases List.mem_cons.mp (I1.stkSub _ q) with w | w
      ·exact ne w
      ·exact nf w
     obtain ⟨o2,e2⟩:=F.there p.1 _ e1 nst
     rw [z,fl6'.new] at e2
     cases e2
    rw [aq hne]
    exact n'
  refine eU (M:=model X.prog X.w) I7 hN hi (.inl hl) (show aE (.ref a) (.ref a) from rfl) (fun s8 I8=>?_) (.inr hl)
  refine wpAny_mono (hs a pins s8 _ _ _ (xY I8) (hw a F.new)) (fun f s9 q=>?_) fun _ _ z=>False.elim z
  cases f with
  | next =>
    obtain ⟨σ9,H9,I9,q9⟩:=q
    exact fN (gS I.ok I9) hN hi hl fun s10 I10=>⟨_,_,I10,q9⟩
  | brk =>
    obtain ⟨σ9,H9,I9,q9⟩:=q
    exact fN (gS I.ok I9) hN hi hl fun s10 I10=>⟨_,_,I10,q9⟩
  | cont =>
    obtain ⟨σ9,H9,I9,q9⟩:=q
    exact fN (gS I.ok I9) hN hi hl fun s10 I10=>⟨_,_,I10,q9⟩
  | ret u =>
    obtain ⟨v,σ9,H9,I9,r9,q9⟩:=q
    exact fN (gS I.ok I9) hN hi hl fun s10 I10=>⟨v,_,_,I10,r9,q9⟩
end
structure ExcK (K:Frag)(C:Addr):Prop where
 cls:(clsIn K C).isSome=true
 ga:findIn K (.ref C) "__getattribute__"=some (some (.builtin "BaseException.__getattribute__"))
 gx:findIn K (.ref C) "__getattr__"=some none
 ca:findIn K (.ref C) "__class__"=some (some (.builtin "object.__class__"))
 ob:mroIn K C (.type "object")=some true
 be:mroIn K C (.type "BaseException")=some true
section
variable {prog:Program}{w:World}{A:Around}{E:Value->Shared->Prop}{K:Frag}{x C:Addr}{ox:Obj}
theorem ma {M:Model}{nameV:Value}{Q:Unit->Shared->Prop}{s:Shared}(X:K.In s.heap)(k:ExcK K C)(e:s.heap.get? x=some ox)(hc:ox.cls = .ref C)(hq:Q () s):
 wpAny M A (checkBuiltinCall "BaseException.__getattribute__" ⟨[.ref x,nameV],[]⟩) Q E s:=by
 obtain ⟨hh,g,d,t,os⟩:=s
 have L0:Looks M hh (typeOf (.ref x)) (.ref C):=hc ▸ (Looks.ld e).andThen .now
 have L5:=looks_mroIn (M:=M) X k.be
 have hk:builtinKind "BaseException.__getattribute__"=some .slot:=by decide +kernel
 have hsplit:splitId "BaseException.__getattribute__"=some ("BaseException","__getattribute__"):=by decide +kernel
 have ha:=F.args_bexc_ga (.ref x) nameV
 simp only [checkBuiltinCall,hk,hsplit]
 unfold isInstance
 repeat (any_goals (first | assumption | lk | wp_step))
open Builtin Builtin.ObjectAttr Builtin.Getset_descriptor in
theorem lh {R:Result->Shared->Prop}{tp:Value}{s:Shared}(X:K.In s.heap)(k:ExcK K C)(e:s.heap.get? x=some ox)(hc:ox.cls = .ref C)(h:R (.ok (.ret (.ref C))) s):
 codeAny (model prog w) A (.call (.builtin "getset_descriptor.__get__") ⟨[.builtin "object.__class__",.ref x,tp],[]⟩) R s:=by
 obtain ⟨hh,g,dr,t,os⟩:=s
 have L0:Looks (model prog w) hh (typeOf (.ref x)) (.ref C):=hc ▸ (Looks.ld e).andThen .now
 have L1:=looks_mroIn (M:=model prog w) X k.ob
 refine codeAny_call_builtin KF.slot_gs.plain KF.entry_gs (KF.slot_gs.check _ _ _ _ _ _ _ _ KF.type_class (KF.args_gs _ _ _) ?_)
 unfold Builtin.«getset_descriptor.__get__» descrGet
 rw [dga_obj]
 refine wpAny_bind (wpAny_pure ?_)
 unfold descrGetter descrCheckInstance descrNameAndClass isInstance
 simp only [KF.owner_class]
 repeat lk
 refine ⟨Code.quiet_builtin _ (by decide +kernel),codeAny_builtin KF.entry_class ?_⟩
 unfold Builtin.«object.__class__» shownTypeOf
 repeat lk
 exact h
theorem jd {tk:Tok}{Q:PySem.Fin->Shared->Prop}{s:Shared}(X:K.In s.heap)(k:ExcK K C)(e:s.heap.get? x=some ox)(hc:ox.cls = .ref C)(hq:Q (.done (.ret (.ref C))) s):
 wpAny (model prog w) A (Builtin.«object.__getattribute__» ⟨[.ref x,.str "__class__" tk],[]⟩) Q E s:=by
 obtain ⟨hh,g,d,t,os⟩:=s
 have L0:Looks (model prog w) hh (typeOf (.ref x)) (.ref C):=hc ▸ (Looks.ld e).andThen .now
 have L3:=looks_findIn (M:=model prog w) X k.ca
 have f5:=F.typeOf_object_class
 have f6:=F.slot_gs_get.lookup
 have f7:=F.slot_gs_set.lookup
 repeat (any_goals (first | assumption | (with_reducible refine Looks.at (by assumption) ?_) | (with_reducible refine Looks.at L0 ?_) | wp_step))
 refine lh X k e hc ?_
 repeat (any_goals (first | assumption | wp_step))
theorem mH {tk:Tok}{fill expr:Bool}{Q:Value->Shared->Prop}{s:Shared}(X:K.In s.heap)(k:ExcK K C)(e:s.heap.get? x=some ox)(hc:ox.cls = .ref C)(hq:Q (.ref C) s):
 wpAny (model prog w) A (getAttrBy (.ref x) (.str "__class__" tk) fill expr) Q E s:=by
 obtain ⟨hh,g,d,t,os⟩:=s
 have L0:Looks (model prog w) hh (typeOf (.ref x)) (.ref C):=hc ▸ (Looks.ld e).andThen .now
 have L1:=looks_findIn (M:=model prog w) X k.ga
 have L2:=looks_findIn (M:=model prog w) X k.gx
 have f3:=F.attr_ValueError.ga.bind (.ref x)
 have hx0:(expr&&onTheHeap (Value.builtin "BaseException.__getattribute__"))=false:=by cases expr <;> rfl
 have hx2:(Value.builtin "BaseException.__getattribute__" == Value.builtin "object.__getattribute__")=false:=by decide +kernel
 have hx1:(onTheHeap (Value.ref C)&&Value.builtin "BaseException.__getattribute__" == Value.builtin "object.__getattribute__")=false:=by rw [hx2]; rfl
 repeat (any_goals (first | assumption | (with_reducible refine Looks.at (by assumption) ?_) | (with_reducible refine Looks.at L0 ?_) | wp_step))
 refine codeAny_call_builtin F.attr_ValueError.ga.plain F.entry_bexc_ga (ma X k e hc (jd X k e hc ?_))
 repeat (any_goals (first | assumption | wp_step))
theorem uX {Q:Option Value->Shared->Prop}{s:Shared}(X:K.In s.heap)(k:ExcK K C)(e:s.heap.get? x=some ox)(hc:ox.cls = .ref C)(hq:Q (some (.ref C)) { s with toks:=s.toks + 1 }):
 wpAny (model prog w) A (getAttr? (.ref x) "__class__") Q E s:=by
 unfold getAttr? getAttrBy?
 refine wpAny_bind (wpAny_mkText (wpAny_bind (wpAny_attempt (mH (s:={ s with toks:=s.toks + 1 }) X k e hc ?_))))
 exact wpAny_pure hq
theorem kb (k:ExcK K C):KitX K (.ref x) (.ref C) (fun h=>∃ o,h.get? x=some o∧o.cls = .ref C) where
 ty:=fun _ _ _ ⟨o,e,hc⟩=>hc ▸ (Looks.ld e).andThen .now
 it:=fun _ _ X _=>by
  have hcD:=k.cls
  unfold clsIn at hcD
  split at hcD
  ·rename_i c' d' cd' sl' ho
   intro A' Q' E' s' kk q
   unfold isType loadHead
   exact wpAny_bind (wpAny_loadPart (kk _ _ (X _ _ ho)) (wpAny_pure q))
  ·cases hcD
 ne:=fun h tp dd its n sl X htp=>by
  have hcD:=k.cls
  refine Bool.eq_false_iff.mpr fun q=>?_
  have e:C=tp:=Value.ref.inj (beq_iff_eq.mp q)
  subst e
  unfold clsIn at hcD
  split at hcD
  ·rename_i c' d' cd' sl' ho
   have z:=(X _ _ ho).symm.trans htp
   cases z
  ·cases hcD
 ca:=fun X ⟨o,e,hc⟩ q=>uX X k e hc q
end
section
variable {X:Cx}{pins:List (Addr × Obj)}{σ:St}{H:Hp}{s:Shared}
inductive TyX (K:Frag)(H:Hp):V->Value->Prop where
 | of {x:V}{t:Value}(h:TyOf K H x t):TyX K H x t
 | exc {a C:Addr}(e:H a=some (Aj a (.ref C)))(k:ExcK K C):TyX K H (.ref a) (.ref C)
theorem Ci {A:Around}{E:Value->Shared->Prop}{Q:Value->Shared->Prop}{x:V}{u t c:Value}{b:Bool}(I:Inv X pins σ H s)(rx:aE x u)(ty:TyX X.K H x t)(e:kitOne X.K t c=some b)(h:∀ tk,Q (.bool b) { s with toks:=tk }):
 wpAny (model X.prog X.w) A (call (.builtin "isinstance") [u,c]) Q E s:=by
 cases ty with
 | of z=>exact u9 I rx z e h
 | exc ea k =>
   rename_i a C
   cases (show u=Value.ref a from rx)
   obtain ⟨o,vs,h1,h2,_⟩:=rG I.hok ea
   exact kia_one (kb k) I.kIn ⟨o,h1,h2⟩ e (fun z=>nomatch z) h
def Bs:V->Value->Prop
 | .ty n,c=>c = .type n
 | .ref a,c=>c = .ref a
 | _,_=>False
theorem bw:bU X (.builtin "isinstance") (fun xs H Q=>∃ x c t cv b,xs=[x,c]∧Bs c cv∧TyX X.K H x t∧kitOne X.K t cv=some b∧Q (.bl b) H):=by
 intro pins s σ H xs us Q I r h
 obtain ⟨x,c,t,cv,b,rfl,hc,ty,e,q⟩:=h
 cases r with
 | cons r1 r2 =>
   cases r2 with
   | cons r2 r3 =>
     cases r3
     rename_i u uc
     have huc:uc=cv:=by
      cases c with
      | ty n=>cases (show uc=Value.type n from r2); exact hc.symm
      | ref a=>cases (show uc=Value.ref a from r2); exact hc.symm
      | _=>exact hc.elim
     subst huc
     exact Ci I r1 ty e fun tk=>⟨.bl b,H,I.tok tk,rfl,q⟩
end
section
variable {P:Program}{w:World}{K:PySem.W.Frag}{mg:Str->Option Value}{base:Heap}
theorem Fun.okN {x qual:Str}{st:Stmt}{f:Addr}{fd:FuncData}{N ps:List Str}{k:Nat}{sp:Sp}(F:Fun K x qual st f fd)(S:FnScope N ps (ar st))(len:∀ vs H Q E,sp vs H Q E->vs.length=ps.length)
 (hbody:∀ (cdv:Value)(A:Around)(outer:List Env)(s:Shared)(H:Hp)(vs:List V)(Q:VK)(E:XK),Room k (A.deeper (envOfC qual (ar st) s.heap.objs.size f cdv))->sp vs H Q E →
  ∃ t,gB (dE (bz P w) P w K mg base N qual (ar st) f cdv A outer s H E).nox (cm st) t∧t { nx:=fun _ H'=>Q .non H',rt:=Q } (gb N vs) H):FnOk P w K mg base (bz P w) (k + 1) f fd ps sp:=by
 obtain ⟨oc,od,kV,doc,pm,an,cdv,ct,osl,rfl,lk,hcd⟩:=F.ex
 refine xX lk hcd S len fun A outer s H vs Q E hr hsp=>?_
 obtain ⟨t,h,q⟩:=hbody cdv A outer s H vs Q E hr hsp
 exact ⟨t,h.nox,q⟩
theorem Fun.okE {x qual:Str}{st:Stmt}{f:Addr}{fd:FuncData}{N ps:List Str}{k:Nat}{sp:Sp}(F:Fun K x qual st f fd)(S:FnScope N ps (ar st))(len:∀ vs H Q E,sp vs H Q E->vs.length=ps.length)
 (hbody:∀ (cdv:Value)(A:Around)(outer:List Env)(s:Shared)(H:Hp)(vs:List V)(Q:VK)(E:XK),Room k (A.deeper (envOfC qual (ar st) s.heap.objs.size f cdv))->sp vs H Q E →
  ∃ t,gB (dE (bz P w) P w K mg base N qual (ar st) f cdv A outer s H E) (cm st) t∧t { nx:=fun _ H'=>Q .non H',rt:=Q } (gb N vs) H):FnOk P w K mg base (bz P w) (k + 1) f fd ps sp:=by
 obtain ⟨oc,od,kV,doc,pm,an,cdv,ct,osl,rfl,lk,hcd⟩:=F.ex
 exact xX lk hcd S len fun A outer s H vs Q E hr hsp=>hbody cdv A outer s H vs Q E hr hsp
end
section
variable {X:Cx}{pins:List (Addr × Obj)}{σ:St}{H:Hp}{s:Shared}
theorem Ca {x:V}{u t:Value}(I:Inv X pins σ H s)(rx:aE x u)(ty:TyX X.K H x t):Looks (model X.prog X.w) s.heap (typeOf u) t:=by
 cases ty with
 | of ty =>
   cases ty with
   | non=>cases (show u=Value.none from rx); exact kitx_none.ty _ _ I.kIn True.intro
   | bl y=>cases (show u=Value.bool y from rx); exact kitx_bool.ty _ _ I.kIn True.intro
   | int i=>obtain ⟨t,q⟩:=(show ∃ t,u=Value.int i t from rx); cases q; exact kitx_int.ty _ _ I.kIn True.intro
   | str y=>obtain ⟨t,q⟩:=(show ∃ t,u=Value.str y t from rx); cases q; exact kitx_str.ty _ _ I.kIn True.intro
   | flt y=>obtain ⟨t,q⟩:=(show ∃ t,u=Value.float y t from rx); cases q; exact kitx_float.ty _ _ I.kIn True.intro
   | @lst a xs ea =>
     cases (show u=Value.ref a from rx)
     obtain ⟨_,_,n,_,h1⟩:=(show bc X.prog X.w H s.heap a (.lst xs) from I.hok a _ ea)
     exact kitx_list.ty _ _ I.kIn ⟨_,h1,rfl⟩
   | @frz a ob xs ea =>
     cases (show u=Value.ref a from rx)
     obtain ⟨_,_,_,n,_,h1⟩:=(show bc X.prog X.w H s.heap a (.frz ob (.lst xs)) from I.hok a _ ea)
     exact kitx_list.ty _ _ I.kIn ⟨_,h1,rfl⟩
   | @tup a xs ea =>
     cases (show u=Value.ref a from rx)
     obtain ⟨_,_,_,p⟩:=(show bc X.prog X.w H s.heap a (.tup xs) from I.hok a _ ea)
     obtain ⟨o,h1,h2,_⟩:=p
     exact kitx_tuple.ty _ _ I.kIn ⟨o,h1,h2⟩
   | @dK a kvs ea =>
     cases (show u=Value.ref a from rx)
     obtain ⟨_,_,vs,_,p⟩:=(show bc X.prog X.w H s.heap a (.dK kvs) from I.hok a _ ea)
     obtain ⟨o,es,ep,h1,h2,_⟩:=p
     exact kitx_dict.ty _ _ I.kIn ⟨o,h1,h2.1⟩
   | @dT a kvs ea =>
     cases (show u=Value.ref a from rx)
     obtain ⟨_,_,xs,_,o,es,ep,h1,h2,_⟩:=(show bc X.prog X.w H s.heap a (.dT kvs) from I.hok a _ ea)
     exact kitx_dict.ty _ _ I.kIn ⟨o,h1,h2.1⟩
   | @ins a C dx fs ea cl ha hn htk hm =>
     cases (show u=Value.ref a from rx)
     obtain ⟨mA,O,_⟩:=eB I.hok ea
     obtain ⟨od,J,_⟩:=O.look
     exact J.type
 | exc ea k =>
   rename_i a C
   cases (show u=Value.ref a from rx)
   obtain ⟨o,vs,h1,h2,_⟩:=rG I.hok ea
   exact h2 ▸ (Looks.ld h1).andThen .now
end
section
variable {X:Cx}{CX:CXT}{k:Nat}{f C:Addr}{fd:FuncData}{ps:List Str}{sp:Sp}{E:XK}
def BY (K:Frag)(C:Addr)(sp:Sp)(E:XK)(neg:Bool):R2:=fun x y H Q=>∃ p dx fs t,x = .ref p∧H p=some (.ins C dx fs)∧TyX K H y t∧notFirst K C t=true∧sp [x,y] H (fun v H'=>∃ b,v = .bl b∧Q (.bl (b != neg)) H') E
theorem sI {pins:List (Addr × Obj)}{σ:St}{H:Hp}{s:Shared}{Q:VK}{us:List Value}{vs:List V}(F:FnOk X.prog X.w X.K X.mg X.base CX k f fd ps sp)(hr:Room (k + 1) X.A)(hb:aH X.K fd ps [])(hx:cM CX X E)
 (I:Inv X pins σ H s)(r:aG vs us)(h:sp vs H Q E):wpAny (model X.prog X.w) X.A.in1 (call (.ref f) us) (EP X pins σ Q) X.xe s:=by
 have hl:us.length=ps.length:=by rw [← r.length]; exact F.len _ _ _ _ h
 have hb':=hb s us I.kIn (by rw [List.append_nil]; exact hl)
 rw [List.append_nil] at hb'
 refine wpAny_call (codeAny_mono (F.run X.A.in1 X.stack s H ⟨us,[]⟩ us vs Q E hr.in1 I.env0.in1 hb' r h) fun r s' hq=>?_)
 cases r with
 | error e=>exact hx pins σ H s e s' I hq
 | ok fl =>
   cases fl with
   | ret u=>exact I.after hq
   | next=>exact False.elim hq
   | brk=>exact False.elim hq
   | cont=>exact False.elim hq
theorem xW {M:Model}{A:Around}{E':Value->Shared->Prop}{K:Frag}{x:Addr}{b:Value}{ox:Obj}{od:Option Obj}{Q:Unit->Shared->Prop}{s:Shared}(X:K.In s.heap)(J:InstAt s.heap x ox C od)(hm:mroIn K C (.type "object")=some true)(hq:Q () s):
 wpAny M A (checkBuiltinCall "object.__ne__" ⟨[.ref x,b],[]⟩) Q E' s:=by
 obtain ⟨hh,g,d,t,os⟩:=s
 have L0:=J.type (M:=M)
 have L5:=looks_mroIn (M:=M) X hm
 have hk:=F.cmpKind_ne
 have hsplit:=F.cmpSplit_ne
 have ha:=F.cmpArgs_ne (.ref x) b
 simp only [checkBuiltinCall,hk,hsplit]
 unfold isInstance
 repeat (any_goals (first | assumption | lk | wp_step))
theorem vT (hs:findIn X.K (.ref C) "__eq__"=some (some (.ref f)))(hf:isFn X.K (.ref f)=true)(hns:findIn X.K (.ref C) "__ne__"=some (some (.builtin "object.__ne__")))(hm:mroIn X.K C (.type "object")=some true)
 (F:FnOk X.prog X.w X.K X.mg X.base CX k f fd ps sp)(hr:Room (k + 1) X.A)(hb:aH X.K fd ps [])(hx:cM CX X E):
 eM X (compareOp .NotEq) (BY X.K C sp E true):=by
 intro pins s σ H x y v u Q I rx ry h
 obtain ⟨p,dx,fs,t,rfl,ep,ty,hn,q⟩:=h
 cases (show v=Value.ref p from rx)
 obtain ⟨mA,O,_⟩:=eB I.hok ep
 obtain ⟨od,J,_⟩:=O.look
 have hu:X.A.units + 64 < cLine:=hr.units
 have call1:wpAny (model X.prog X.w) X.A.in1 (call (.ref f) [.ref p,u]) (fun r s'=>∃ b,r = .bool b∧EP X pins σ Q (.bool (!b)) s') X.xe s:=by
  refine wpAny_mono (sI F hr hb hx I (us:=[.ref p,u]) (vs:=[.ref p,y]) (.cons rx (.cons ry .nil)) q) (fun r s1 ⟨z,H1,I1,rz,b,eb,q1⟩=>?_) fun _ _ e=>e
  subst eb
  cases (show r=Value.bool b from rz)
  exact ⟨b,rfl,.bl (!b),H1,I1,rfl,by simpa using q1⟩
 have entry:wpAny (model X.prog X.w) X.A.in1 (Builtin.«object.__ne__» ⟨[.ref p,u],[]⟩) (fun fin s'=>∃ b,fin = .done (.ret (.bool (!b)))∧EP X pins σ Q (.bool (!b)) s') X.xe s:=by
  unfold Builtin.«object.__ne__»
  refine wpAny_bind (m:=slotArgs "__ne__" 1 _) (wpAny_pure ?_)
  refine wpAny_bind (wpAny_cRoomFor (by show X.A.units + 1 < cLine; omega) ?_)
  refine wpAny_bind (ifBound_K I.kIn J hs hf (wpAny_mono call1 (fun r s1 z=>?_) fun _ _ e=>e))
  obtain ⟨b,rfl,q1⟩:=z
  exact wpAny_bind (wpAny_truthy_bool (wpAny_pure ⟨b,rfl,q1⟩))
 have S:=PySem.F.cmp_object.ne
 have inner:wpAny (model X.prog X.w) X.A (callSpecialIfBound? (.ref p) "__ne__" [u]) (fun r s'=>∃ b,r=some (.bool (!b))∧EP X pins σ Q (.bool (!b)) s') X.xe s:=by
  simp only [callSpecialIfBound?,bindSpecialIfBound?]
  refine wpAny_holding (wpAny_bind (wpAny_bind (wpAny_bind (J.type.here ((looks_findIn I.kIn hns).here ?_)))))
  simp only [S.bind]
  refine wpAny_bind (wpAny_askSetting (wpAny_ite ?_))
  have fin:wpAny (model X.prog X.w) X.A (call (.builtin "object.__ne__") ([.ref p]++[u]) >>= fun v=>pure (some v)) (fun r s'=>∃ b,r=some (.bool (!b))∧EP X pins σ Q (.bool (!b)) s') X.xe s:=by
   refine wpAny_bind (wpAny_call (codeAny_call_builtin S.plain PySem.F.cmpEntry_ne (xW I.kIn J hm (wpAny_mono entry (fun fin s1 z=>?_) fun _ _ e=>e))))
   obtain ⟨b,rfl,q1⟩:=z
   exact wpAny_pure ⟨b,rfl,q1⟩
  split
  ·exact wpAny_bind (wpAny_pure (wpAny_pure fin))
  ·exact wpAny_tryCatch (wpAny_bind (wpAny_pure (wpAny_pure fin)))
 have one:wpAny (model X.prog X.w) X.A (tryCompare (.ref p) "__ne__" u) (fun r s'=>∃ v,r=some v∧EP X pins σ Q v s') X.xe s:=by
  unfold tryCompare
  refine wpAny_bind (wpAny_mono inner (fun r s1 z=>?_) fun _ _ e=>e)
  obtain ⟨b,rfl,q1⟩:=z
  exact wpAny_pure ⟨_,rfl,q1⟩
 refine cmp_ofNotEq ?_
 unfold richCompare
 simp only [oneThing_ref]
 refine wpAny_holding (wpAny_bind (wpAny_cRoomFor (by omega) ?_))
 rw [cmpInfo_NotEq]
 dsimp only
 refine wpAny_bind (J.type.here (wpAny_bind ((Ca I ry ty).here ?_)))
 split
 ·rename_i qq
  have e:subIn X.K t (.ref C)=some false:=by
   rcases Bool.or_eq_true_iff.mp hn with e | e
   ·rw [beq_iff_eq.mp e] at qq; simp at qq
   ·exact beq_iff_eq.mp e
  refine wpAny_bind ((looks_subIn I.kIn e).here ?_)
  simp only [Bool.false_eq_true,if_false]
  refine wpAny_bind (wpAny_mono one (fun r s' z=>?_) fun _ _ e=>e)
  obtain ⟨v,rfl,hq⟩:=z
  exact wpAny_pure hq
 ·refine wpAny_bind (wpAny_pure ?_)
  simp only [Bool.false_eq_true,if_false]
  refine wpAny_bind (wpAny_mono one (fun r s' z=>?_) fun _ _ e=>e)
  obtain ⟨v,rfl,hq⟩:=z
  exact wpAny_pure hq
end
section
variable {X:Cx}
def BM (K:PySem.W.Frag):R2:=fun x y H Q=>∃ p q xs,x = .ref p∧y = .ref q∧br K H p xs∧br K H q []∧Q (.bl (decide (xs=[]))) H
theorem xA {k:Nat}(hr:Room k X.A):eM X (compareOp .Eq) (BM X.K):=by
 intro pins s σ H x y v u Q I rx ry h
 obtain ⟨p,q,xs,rfl,rfl,h1,h2,w⟩:=h
 cases (show v=Value.ref p from rx)
 cases (show u=Value.ref q from ry)
 obtain ⟨its,r1,p1,_⟩:=I.list h1
 obtain ⟨its2,r2,p2,_⟩:=I.list h2
 cases r2
 by_cases e:xs=[]
 ·subst e
  cases r1
  refine SeqAt.eq_listAt (e:=fun _=>true) p1.isList p2.isList rfl hr.units0 (fun j a b=>absurd a (by simp)) ⟨.bl true,H,I,?_,by simpa using w⟩
  rfl
 ·refine SeqAt.eq_list_lengthsAt p1.isList p2.isList ?_ hr.units0 ⟨.bl false,H,I,rfl,by simpa [e] using w⟩
  have hl:=r1.length
  have hx:xs.length≠0:=fun z=>e (List.eq_nil_of_length_eq_zero z)
  have:its.toArray.size≠0:=by rw [List.size_toArray]; omega
  simpa using this
end
def xS (tabs:List (Addr × Addr))(H:Hp):Prop:=(∀ b,H b=none∨(∃ o xs,H b=some (.frz o (.lst xs)))∨(H b=some (.tbl #[])∧∃ c,(c,b)∈tabs))∧∀ q∈tabs,H q.2=some (.tbl #[])
structure BaseT (tabs:List (Addr × Addr))(mg:Str->Option Value)(base:Heap):Prop where
 hd:∀ q∈tabs,CodeHd base q.1 q.2
 bm:∃ bm ob,mg "__builtins__"=some (.ref bm)∧bm≠builtinsNs∧base.get? bm=some ob∧ob.cls = .type "module"∧ob.dict=some builtinsNs∧ob.data = .plain
theorem uA {P:Program}{w:World}{K:Frag}{mg mb:Str->Option Value}{CX:CXT}{k:Nat}{fa a:Addr}{fd:FuncData}{x:Str}{sp:Sp}{s₁:Shared}{vs:List Value}{ns:List Int}{tabs:List (Addr × Addr)}
 (KX:K.In s₁.heap)(hns:s₁.heap.Ns mainGlobals mg)(hb:s₁.heap.Ns builtinsNs mb)(hbb:∀ x:Str,x ≠ "__name__"->mb x=bootBuiltins x)(hlim:s₁.heap.NoLimit)(hg:s₁.gens = #[])
 (ha:s₁.heap.get? a=some { cls:=.type "list",data:=.seq vs.toArray })(hi:IntsAre vs ns)(hl:ns.length≤sizeLine)(hr:Room k callerA)(hT:TabsAt tabs s₁.heap)(hKT:∀ q∈tabs,K.lookup q.2=none)
 (hbm:∃ bm ob,mg "__builtins__"=some (.ref bm)∧bm≠builtinsNs∧s₁.heap.get? bm=some ob∧ob.cls = .type "module"∧ob.dict=some builtinsNs∧ob.data = .plain)
 (F:∀ base:Heap,K.In base->base.Ns mainGlobals mg->BaseT tabs mg base->FnOk P w K mg base CX k fa fd [x] sp)(hbind:∀ (s:Shared)(u:Value),BindsTo s fd ⟨[u],[]⟩ [(x,u)])
 (hsp:∀ H:Hp,xS tabs H->br K H a (ns.map V.int)->sp [.ref a] H (fun v _=>v = .bl true) fun _ _ _=>False)
 (hCX:∀ H e s',CX [] H s₁ (fun _ _ _=>False) e s'->False):
 codeAny (model P w) callerA (.call (.ref fa) ⟨[.ref a],[]⟩) (fun r s'=>r = .ok (.ret (.bool true))∧OldK s₁.heap s'.heap∧s'.os=s₁.os∧AllBare s'.gens) s₁:=by
 have rv:=lQ hi
 have lenV:=hi.length
 have isT:∀ b,(∃ c,(c,b)∈tabs)->s₁.heap.get? b=some (tabObj #[]):=fun b ⟨c,hc⟩=>(hT _ hc).2
 have core:∀ H:Hp,xS tabs H->br K H a (ns.map V.int)->eK P w H s₁.heap->(∀ b,H b≠none->b=a∨∃ c,(c,b)∈tabs)->(H a≠none->K.lookup a=none) →
  codeAny (model P w) callerA (.call (.ref fa) ⟨[.ref a],[]⟩) (fun r s'=>r = .ok (.ret (.bool true))∧OldK s₁.heap s'.heap∧s'.os=s₁.os∧AllBare s'.gens) s₁:=by
  intro H hO hS hok hA hK
  have base_of:∀ {b:Addr}{o:Obj},s₁.heap.get? b=some o->H b=none->(kZ s₁.heap H).get? b=some o:=fun e n=>wO e n
  have noO:∀ {b:Addr}{o:Obj},s₁.heap.get? b=some o->o.cls ≠ .none->(∀ its n,o.data ≠ .seq its n)->H b=none:=fun {b o} e d1 d2=>by
   cases q:H b with
   | none=>rfl
   | some u =>
     rcases hA b (by rw [q]; simp) with e' | e'
     ·subst e'
      rw [ha] at e; cases e
      exact absurd rfl (d2 _ _)
     ·rw [isT b e'] at e; cases e
      exact absurd rfl d1
  have noA:∀ {b:Addr}{o:Obj}{es:Array DictEntry}{ep:Nat},s₁.heap.get? b=some o->o.data = .dict es ep->H b=none:=fun {b o es ep} e d=>by
   cases q:H b with
   | none=>rfl
   | some u =>
     rcases hA b (by rw [q]; simp) with e' | e'
     ·subst e'
      rw [ha] at e; cases e
      have d':Data.seq vs.toArray _=Data.dict es ep:=d
      cases d'
     ·rw [isT b e'] at e; cases e
      have d':Data.fields #[]=Data.dict es ep:=d
      cases d'
  have nsK:∀ {b:Addr}{m:Str->Option Value},s₁.heap.Ns b m->(kZ s₁.heap H).Ns b m:=fun {b m} ⟨o,es,ep,e,d,r⟩=>⟨o,es,ep,base_of e (noA e d),d,r⟩
  have hKb:K.In (kZ s₁.heap H):=fun b o e=>base_of (KX b o e) (by
   cases q:H b with
   | none=>rfl
   | some u =>
     rcases hA b (by rw [q]; simp) with e' | ⟨c,e'⟩
     ·subst e'
      rw [hK (by rw [q]; simp)] at e; cases e
     ·have z:=hKT _ e'
      rw [z] at e; cases e)
  have hM:Mod K mg (kZ s₁.heap H):=⟨hKb,nsK hns,⟨mb,nsK hb,hbb⟩,let ⟨mc,h1,h2⟩:=hlim; ⟨mc,nsK h1,h2⟩⟩
  have hBT:BaseT tabs mg (kZ s₁.heap H):=by
   refine ⟨fun q hq=>?_,?_⟩
   ·obtain ⟨o,ws,file,tf,flags,tg,inF,text,tt,e1,r1,r2,r3⟩:=(hT q hq).1
    exact ⟨o,ws,file,tf,flags,tg,inF,text,tt,base_of e1 (noO e1 (by rw [r1]; intro z; cases z) (fun its n z=>by rw [r2] at z; cases z)),r1,r2,r3⟩
   ·obtain ⟨bm,ob,b1,b2,b3,b4,b5,b6⟩:=hbm
    exact ⟨bm,ob,b1,b2,base_of b3 (noO b3 (by rw [b4]; intro z; cases z) (fun its n z=>by rw [b6] at z; cases z)),b4,b5,b6⟩
  have e0:Env0 P w K mg (kZ s₁.heap H) callerA [] s₁ H:=⟨rfl,hM,fun b o e=>zy e,Nat.le_of_eq (vA _ _),trivial,fun b hb=>absurd (show b∈([]:List Addr) from hb) (by simp),hok,.of_eq hg⟩
  refine codeAny_mono ((F _ hKb (nsK hns) hBT).run callerA [] s₁ H ⟨[.ref a],[]⟩ [.ref a] [.ref a] _ _ hr e0 (hbind s₁ (.ref a)) (.cons rfl .nil) (hsp H hO hS)) fun r s' h=>?_
  cases r with
  | error e=>exact (hCX H e s' h).elim
  | ok fl =>
    cases fl with
    | next=>exact False.elim h
    | brk=>exact False.elim h
    | cont=>exact False.elim h
    | ret u =>
      obtain ⟨v,H',os,bare,un,hok',r',q⟩:=h
      have q':v = .bl true:=q
      subst q'
      obtain rfl:u=Value.bool true:=r'
      refine ⟨rfl,⟨fun b o e=>?_,fun b o e=>un.there b o e (by simp)⟩,os,bare⟩
      cases q:H b with
      | none=>exact .inl (un.keep b o e q (by intro z; exact absurd (show b∈([]:List Addr) from z) (by simp)) (by simp))
      | some u =>
        rcases hO.1 b with z | ⟨ob,xs,z⟩ | ⟨z,c,hc⟩
        ·rw [q] at z; cases z
        ·have z2:=un.frzs b ob _ z
         obtain ⟨e1,_⟩:=hok b _ z
         obtain ⟨e2,_⟩:=hok' b _ z2
         rw [e] at e1; cases e1
         exact .inl e2
        ·obtain ⟨more,z2⟩:=un.tbls b _ z
         have e2:s'.heap.get? b=some { cls:=.none,data:=.fields (#[]++more) }:=hok' b _ z2
         have e1:=isT b ⟨c,hc⟩
         rw [e] at e1; cases e1
         exact .inr (.inl ⟨((hT _ hc).1.tab (hT _ hc).2).isCodeTable,rfl,#[],more,rfl,e2⟩)
 have aT:∀ c,(c,a) ∉ tabs:=fun c hc=>by
  have z:=isT a ⟨c,hc⟩
  rw [ha] at z
  cases z
 have memT:∀ b,Decidable (∃ c,(c,b)∈tabs):=fun b=>Classical.propDecidable _
 cases hk:K.lookup a with
 | some o =>
   have e:=KX a o hk
   rw [ha] at e
   cases e
   refine core (fun b=>@ite _ (∃ c,(c,b)∈tabs) (memT b) (some (.tbl #[])) none) ⟨fun b=>?_,fun q hq=>?_⟩ (.inr ⟨_,vs.toArray,_,hk,rfl,rfl,rfl,by rw [List.size_toArray,lenV]; exact hl,by simpa using rv⟩) (fun b u z=>?_) (fun b z=>?_) fun z=>?_
   ·by_cases hb:∃ c,(c,b)∈tabs
    ·exact .inr (.inr ⟨if_pos hb,hb⟩)
    ·exact .inl (if_neg hb)
   ·exact if_pos ⟨q.1,hq⟩
   ·by_cases hb:∃ c,(c,b)∈tabs
    ·have z':=(if_pos hb).symm.trans z
     cases z'
     exact isT b hb
    ·have z':=(if_neg hb).symm.trans z
     cases z'
   ·by_cases hb:∃ c,(c,b)∈tabs
    ·exact .inr hb
    ·exact absurd (if_neg hb) z
   ·exact absurd (if_neg fun ⟨c,hc⟩=>aT c hc) z
 | none =>
   refine core (fun b=>if b=a then some (.frz { cls:=.type "list",data:=.seq vs.toArray } (.lst (ns.map V.int))) else @ite _ (∃ c,(c,b)∈tabs) (memT b) (some (.tbl #[])) none) ⟨fun b=>?_,fun q hq=>?_⟩ (.inl (.inr ⟨{ cls:=.type "list",data:=.seq vs.toArray },if_pos rfl⟩)) (fun b u z=>?_) (fun b z=>?_) fun _=>hk
   ·by_cases hb:b=a
    ·exact .inr (.inl ⟨_,_,if_pos hb⟩)
    ·by_cases ht:∃ c,(c,b)∈tabs
     ·exact .inr (.inr ⟨(if_neg hb).trans (if_pos ht),ht⟩)
     ·exact .inl ((if_neg hb).trans (if_neg ht))
   ·have hb:q.2≠a:=fun z=>aT q.1 (by rw [← z]; exact hq)
    exact (if_neg hb).trans (if_pos ⟨q.1,hq⟩)
   ·by_cases hb:b=a
    ·have z':=(if_pos hb).symm.trans z
     cases z'
     subst hb
     exact ⟨ha,by rw [List.length_map]; exact hl,vs,_,rv,ha⟩
    ·have z':=(if_neg hb).symm.trans z
     by_cases ht:∃ c,(c,b)∈tabs
     ·have z2:=(if_pos ht).symm.trans z'
      cases z2
      exact isT b ht
     ·have z2:=(if_neg ht).symm.trans z'
      cases z2
   ·by_cases hb:b=a
    ·exact .inl hb
    ·by_cases ht:∃ c,(c,b)∈tabs
     ·exact .inr ht
     ·exact absurd ((if_neg hb).trans (if_neg ht)) z
structure FunD (K:Frag)(x qual:Str)(st:Stmt)(f:Addr)(fd:FuncData)(T:Addr):Prop where
 ex:∃ (oc:Value)(od:Option Addr)(kV doc pm:Value)(an:Option Addr)(cdv ct:Value)(osl:Array (Option Value)),
  fd=fnOf x qual (cZ st) (cm st) (ar st) (.ref T) kV doc pm an cdv ct∧K.lookup f=some ⟨oc,od,.func fd,osl⟩∧codeIn K cdv qual=true
 kp:keepIn K (.ref f)=true
section
variable {P:Program}{w:World}{K:Frag}{mg:Str->Option Value}{base:Heap}
theorem FunD.okE {x qual:Str}{st:Stmt}{f T:Addr}{fd:FuncData}{N ps:List Str}{k:Nat}{sp:Sp}(F:FunD K x qual st f fd T)(S:FnScope N ps (ar st))(len:∀ vs H Q E,sp vs H Q E->vs.length=ps.length)
 (hbody:∀ (cdv:Value)(A:Around)(outer:List Env)(s:Shared)(H:Hp)(vs:List V)(Q:VK)(E:XK),Room k (A.deeper (envOfC qual (ar st) s.heap.objs.size f cdv))->sp vs H Q E →
  ∃ t,gB (dE (bz P w) P w K mg base N qual (ar st) f cdv A outer s H E) (cm st) t∧t { nx:=fun _ H'=>Q .non H',rt:=Q } (gb N vs) H):FnOk P w K mg base (bz P w) (k + 1) f fd ps sp:=by
 obtain ⟨oc,od,kV,doc,pm,an,cdv,ct,osl,rfl,lk,hcd⟩:=F.ex
 exact xX lk hcd S len fun A outer s H vs Q E hr hsp=>hbody cdv A outer s H vs Q E hr hsp
theorem yN {x qual:Str}{st:Stmt}{f T:Addr}{oc:Value}{od an:Option Addr}{osl:Array (Option Value)}{kV doc pm cdv ct:Value}(l:K.lookup f=some ⟨oc,od,.func (fnOf x qual (cZ st) (cm st) (ar st) (.ref T) kV doc pm an cdv ct),osl⟩)
 (c:codeIn K cdv qual=true)(k:keepIn K (.ref f)=true):FunD K x qual st f (fnOf x qual (cZ st) (cm st) (ar st) (.ref T) kV doc pm an cdv ct) T:=⟨⟨oc,od,kV,doc,pm,an,cdv,ct,osl,rfl,l,c⟩,k⟩
end
section
variable {X:Cx}{CX:CXT}{k:Nat}{f C:Addr}{fd:FuncData}{ps ks:List Str}{sp:Sp}{E:XK}{x:Str}{p pos:Pos}{kws:List Keyword}{tk:TA}{g:List Value->List Value->List Value}{gV:List V->List V->List V}
def BE (C:Addr)(sp:Sp)(gV:List V->List V->List V)(E:XK)(tk:TA):TE:=fun σ H Q=>tk σ H fun zs H1=>∀ x dx,H1 x=none->H1 dx=none->dx≠x →
 sp (gV [.ref x] zs) (upd (upd H1 dx (.own x)) x (.ins C dx [])) (fun v H2=>v = .non∧Q (.ref x) H2) E
theorem wc (M:Mk X.K C f)(F:FnOk X.prog X.w X.K X.mg X.base CX k f fd ps sp)(hr:Room (k + 1) X.A)(hg:Gl X x)(hm:X.mg x=some (.ref C))(hb:KBinds X.K fd ps ks g gV)(hx:cM CX X E)(hkw:PK X kws tk)
 (hall:(backToKw pos (keywordEach kws X.env)).all (·.1.isSome)=true:=by rfl)(hks:(backToKw pos (keywordEach kws X.env)).filterMap (·.1)=ks:=by rfl)(hdb:(x == ("__debug__":Str))=false:=by decide)
 (hpl:((backTo pos (starEach [] X.env)).any (·.1) || (backToKw pos (keywordEach kws X.env)).any (·.1.isNone))=false:=by rfl):PE X (.Call (.Name x p) [] kws pos) (BE C sp gV E tk):=by
 intro pins s σ H Q I h
 refine wpAny_Call_Name_kw (c4 I hg hm ?_ hdb)
 refine callWith_KW0 (h₀:=X.base) I.ok.mod.kin M.kp hall (bH (hkw pos pins s σ H _ I h) fun ws s1 ⟨zs,H1,I1,rz,q⟩=>⟨I1.kIn,?_⟩) hpl
 rw [hks]
 have hq:=q (s1.heap.objs.size + 1) s1.heap.objs.size (I1.hok.fresh (Nat.le_succ _)) (I1.hok.fresh (Nat.le_refl _)) (Nat.ne_of_lt (Nat.lt_succ_self _))
 have I2:=Inv.made (C:=C) I1
 have r2:aG (gV [V.ref (s1.heap.objs.size + 1)] zs) (g [Value.ref (s1.heap.objs.size + 1)] ws):=hb.rel (.cons rfl .nil) rz
 have hl:(g [Value.ref (s1.heap.objs.size + 1)] ws).length=ps.length:=by rw [← r2.length]; exact F.len _ _ _ _ hq
 refine wpAny_call (gY (f:=f) I1.kIn M.makes M.init (beq_iff_eq.mp M.fn) (codeAny_mono (F.run _ X.stack _ _ ⟨[Value.ref (s1.heap.objs.size + 1)],ks.zip ws⟩ _ _ _ E (hr.make C [] (ks.zip ws))
  (I2.env0.make C [] (ks.zip ws)) (hb.to _ [Value.ref (s1.heap.objs.size + 1)] ws I2.kIn hl) r2 hq) fun r s' hq'=>?_))
 cases r with
 | error e=>exact hx pins σ _ _ e s' I2 hq'
 | ok fl =>
   cases fl with
   | ret u =>
     obtain ⟨v,H',I3,rv,ev,q3⟩:=I2.after hq'
     subst ev
     exact ⟨rv,⟨V.ref (s1.heap.objs.size + 1),H',I3,rfl,q3⟩⟩
   | next=>exact False.elim hq'
   | brk=>exact False.elim hq'
   | cont=>exact False.elim hq'
end
def fj:Expr->Bool
 | .Starred _ _=>true
 | _=>false
theorem bu {e:Expr}{rest:List Expr}{env:Env}(h:fj e=false):starEach (e :: rest) env=(false,eval e env):: starEach rest env:=by
 rw [starEach]
 intro e' p z
 subst z
 cases h
section
variable {X:Cx}{e:Expr}{es:List Expr}{te:TE}{t:TA}
theorem aj (ha:PE X e te)(hr:PA X es t)(h:fj e=false:=by rfl):PA X (e :: es) (cT te t):=b8 ha hr (bu h)
end
inductive D where
 | non | bl (b:Bool) | int (i:Int) | str (x:Str) | lst (ds:List D) | tup (ds:List D)
mutual
def aN (K:Frag)(H:Hp):D->V->Prop
 | .non,v=>v = .non
 | .bl b,v=>v = .bl b
 | .int i,v=>v = .int i
 | .str x,v=>v = .str x
 | .lst ds,v=>∃ a xs,v = .ref a∧br K H a xs∧bF K H ds xs
 | .tup ds,v=>∃ a xs,v = .ref a∧bf K H a xs∧bF K H ds xs
def bF (K:Frag)(H:Hp):List D->List V->Prop
 | [],xs=>xs=[]
 | d :: ds,xs=>∃ y ys,xs=y :: ys∧aN K H d y∧bF K H ds ys
end
mutual
def df:D->D->Bool
 | .non,.non=>true
 | .bl a,.bl b=>a == b
 | .bl a,.int b=>(if a then 1 else 0) == b
 | .int a,.bl b=>a == (if b then 1 else 0)
 | .int a,.int b=>a == b
 | .str a,.str b=>a == b
 | .lst a,.lst b=>cz a b
 | .tup a,.tup b=>cz a b
 | _,_=>false
def cz:List D->List D->Bool
 | [],[]=>true
 | a :: as,b :: bs=>df a b&&cz as bs
 | _,_=>false
end
mutual
def i4:D->Nat
 | .lst ds=>dC ds + 1
 | .tup ds=>dC ds + 1
 | _=>0
def dC:List D->Nat
 | []=>0
 | d :: ds=>max (i4 d) (dC ds)
end
theorem tY:∀ {ds:List D}{d:D},d∈ds->i4 d≤dC ds
 | e :: ds,d,h=>by
   unfold dC
   rcases List.mem_cons.mp h with rfl | h
   ·exact Nat.le_max_left _ _
   ·exact Nat.le_trans (tY h) (Nat.le_max_right _ _)
theorem gm:∀ (as bs:List D),cz as bs=((List.range (min as.length bs.length)).all (fun j=>df (as.getD j .non) (bs.getD j .non))&&as.length == bs.length)
 | [],[]=>rfl
 | [],b :: bs=>by simp [cz]
 | a :: as,[]=>by simp [cz]
 | a :: as,b :: bs=>by
   unfold cz
   rw [gm as bs]
   have e:min (a :: as).length (b :: bs).length=min as.length bs.length + 1:=by simp [Nat.succ_min_succ]
   rw [e,List.range_succ_eq_map,List.all_cons,List.all_map]
   have h1:((a :: as).length == (b :: bs).length)=(as.length == bs.length):=by simp
   rw [h1,Bool.and_assoc]
   rfl
theorem bF.len {K:Frag}{H:Hp}:∀ {ds:List D}{xs:List V},bF K H ds xs->ds.length=xs.length
 | [],xs,h=>by
   have h:xs=[]:=by unfold bF at h; exact h
   rw [h]
   rfl
 | d :: ds,xs,h=>by
   unfold bF at h
   obtain ⟨y,ys,rfl,_,h⟩:=h
   simp [bF.len h]
theorem bF.get {K:Frag}{H:Hp}:∀ {ds:List D}{xs:List V}{j:Nat}(hj:j < xs.length),bF K H ds xs->aN K H (ds.getD j .non) xs[j]∧ds.getD j .non∈ds
 | [],xs,j,hj,h=>by
   have h:xs=[]:=by unfold bF at h; exact h
   subst h
   exact absurd hj (by simp)
 | d :: ds,xs,j,hj,h=>by
   unfold bF at h
   obtain ⟨y,ys,rfl,hd,h⟩:=h
   cases j with
   | zero=>exact ⟨hd,List.mem_cons_self⟩
   | succ j =>
     obtain ⟨h1,h2⟩:=bF.get (j:=j) (by simpa using hj) h
     exact ⟨h1,List.mem_cons_of_mem _ h2⟩
mutual
theorem dz:∀ d:D,df d d=true
 | .non=>rfl
 | .bl b=>by unfold df; simp
 | .int i=>by unfold df; simp
 | .str x=>by unfold df; simp
 | .lst ds=>by unfold df; exact ic ds
 | .tup ds=>by unfold df; exact ic ds
theorem ic:∀ ds:List D,cz ds ds=true
 | []=>rfl
 | d :: ds=>by unfold cz; rw [dz d,ic ds]; rfl
end
section
variable {X:Cx}{pins:List (Addr × Obj)}{σ:St}{H:Hp}{s:Shared}
theorem fq (I:Inv X pins σ H s){a:Addr}{xs ys:List V}(h1:br X.K H a xs)(h2:bf X.K H a ys):False:=by
 obtain ⟨its,_,p1,_⟩:=I.list h1
 obtain ⟨its2,_,p2,_⟩:=I.tuple h2
 exact SeqAt.ne_of_list_tuple p1.isList (show s.heap.IsTuple a its2.toArray from p2) rfl
mutual
theorem kd (I:Inv X pins σ H s):∀ (d e:D)(v:V),aN X.K H d v->aN X.K H e v->df d e=true
 | .non,e,v,h1,h2=>by
   unfold aN at h1
   subst h1
   cases e <;> unfold aN at h2 <;> first | (obtain ⟨_,_,z,_⟩:=h2; cases z; done) | rfl | (cases h2; done)
 | .bl b,e,v,h1,h2=>by
   unfold aN at h1
   subst h1
   cases e <;> unfold aN at h2 <;> first | (obtain ⟨_,_,z,_⟩:=h2; cases z; done) | (cases h2; exact dz _) | (cases h2; done)
 | .int b,e,v,h1,h2=>by
   unfold aN at h1
   subst h1
   cases e <;> unfold aN at h2 <;> first | (obtain ⟨_,_,z,_⟩:=h2; cases z; done) | (cases h2; exact dz _) | (cases h2; done)
 | .str b,e,v,h1,h2=>by
   unfold aN at h1
   subst h1
   cases e <;> unfold aN at h2 <;> first | (obtain ⟨_,_,z,_⟩:=h2; cases z; done) | (cases h2; exact dz _) | (cases h2; done)
 | .lst ds,e,v,h1,h2=>by
   unfold aN at h1
   obtain ⟨a,xs,rfl,q,r⟩:=h1
   cases e with
   | lst es =>
     unfold aN at h2
     obtain ⟨b,ys,z,q2,r2⟩:=h2
     cases z
     have e:=I.list_inj q q2
     subst e
     unfold df
     exact iB I ds es xs r r2
   | tup es =>
     unfold aN at h2
     obtain ⟨b,ys,z,q2,r2⟩:=h2
     cases z
     exact (fq I q q2).elim
   | _=>unfold aN at h2; cases h2
 | .tup ds,e,v,h1,h2=>by
   unfold aN at h1
   obtain ⟨a,xs,rfl,q,r⟩:=h1
   cases e with
   | tup es =>
     unfold aN at h2
     obtain ⟨b,ys,z,q2,r2⟩:=h2
     cases z
     have e:=I.tuple_inj q q2
     subst e
     unfold df
     exact iB I ds es xs r r2
   | lst es =>
     unfold aN at h2
     obtain ⟨b,ys,z,q2,r2⟩:=h2
     cases z
     exact (fq I q2 q).elim
   | _=>unfold aN at h2; cases h2
theorem iB (I:Inv X pins σ H s):∀ (ds es:List D)(xs:List V),bF X.K H ds xs->bF X.K H es xs->cz ds es=true
 | [],es,xs,h1,h2=>by
   unfold bF at h1
   subst h1
   cases es with
   | nil=>rfl
   | cons e es=>unfold bF at h2; obtain ⟨_,_,z,_⟩:=h2; cases z
 | d :: ds,es,xs,h1,h2=>by
   unfold bF at h1
   obtain ⟨y,ys,rfl,hd,h1⟩:=h1
   cases es with
   | nil=>unfold bF at h2; cases h2
   | cons e es =>
     unfold bF at h2
     obtain ⟨_,_,z,he,h2⟩:=h2
     cases z
     unfold cz
     rw [kd I d e y hd he,iB I ds es ys h1 h2]
     rfl
end
theorem j4 (I:Inv X pins σ H s)(n:Nat)(ih:n≠0->∀ (A:Around)(d e:D)(x y:V)(u v:Value),i4 d≤n - 1->A.units + (n - 1) < cLine->aN X.K H d x->aN X.K H e y->aE x u->aE y v->SeqAt.EqAt A s u v (df d e))
 (hn0:n≠0)(A:Around)(hu:A.units + n < cLine){ds es:List D}{xs ys:List V}{its its2:List Value}(r1:bF X.K H ds xs)(r2:bF X.K H es ys)(rv:aG xs its)(rv2:aG ys its2)(hn:dC ds≤n - 1):
 ∀ j (h1:j < its.toArray.size)(h2:j < its2.toArray.size),SeqAt.EqAt A.in1 s its.toArray[j] its2.toArray[j] (df (ds.getD j .non) (es.getD j .non)):=by
 intro j h1 h2
 have e1:j < xs.length:=by rw [rv.length]; simpa using h1
 have e2:j < ys.length:=by rw [rv2.length]; simpa using h2
 obtain ⟨d1,m1⟩:=r1.get e1
 obtain ⟨d2,m2⟩:=r2.get e2
 obtain ⟨u,hu1,ru⟩:=rv.get (List.getElem?_eq_getElem e1)
 obtain ⟨v,hv1,rv'⟩:=rv2.get (List.getElem?_eq_getElem e2)
 have z1:its.toArray[j]=u:=by
  have:=List.getElem?_eq_some_iff.mp hu1
  obtain ⟨_,q⟩:=this
  simpa using q
 have z2:its2.toArray[j]=v:=by
  have:=List.getElem?_eq_some_iff.mp hv1
  obtain ⟨_,q⟩:=this
  simpa using q
 rw [z1,z2]
 exact ih hn0 A.in1 _ _ _ _ _ _ (Nat.le_trans (tY m1) hn) (by show A.units + 1 + (n - 1) < cLine; omega) d1 d2 ru rv'
theorem lK (I:Inv X pins σ H s)(n:Nat)(ih:n≠0->∀ (A:Around)(d e:D)(x y:V)(u v:Value),i4 d≤n - 1->A.units + (n - 1) < cLine->aN X.K H d x->aN X.K H e y->aE x u->aE y v->SeqAt.EqAt A s u v (df d e))
 (A:Around)(d e:D)(x y:V)(u v:Value)(hn:i4 d≤n)(hu:A.units + n < cLine)(h1:aN X.K H d x)(h2:aN X.K H e y)(rx:aE x u)(ry:aE y v):
 SeqAt.RcAt A s u v (df d e)∧SeqAt.EqAt A s u v (df d e)∧SeqAt.RcNeAt A s u v (!df d e):=by
 have hu0:A.units < cLine:=by omega
 cases d with
 | non =>
   unfold aN at h1
   subst h1
   cases rx
   cases e with
   | non =>
     unfold aN at h2
     subst h2
     cases ry
     exact ⟨.none_none,.same _,.none_none⟩
   | bl q =>
     unfold aN at h2
     subst h2
     cases ry
     exact ⟨.none_bool q,.none_bool q,.none_bool q⟩
   | int q =>
     unfold aN at h2
     subst h2
     obtain ⟨tq,rfl⟩:=ry
     exact ⟨.none_int q tq,.none_int q tq,.none_int q tq⟩
   | str q =>
     unfold aN at h2
     subst h2
     obtain ⟨tq,rfl⟩:=ry
     exact ⟨.none_str q tq,.none_str q tq,.none_str q tq⟩
   | lst es =>
     unfold aN at h2
     obtain ⟨b,ys,rfl,q2,r2⟩:=h2
     cases ry
     obtain ⟨its2,rv2,p2,_⟩:=I.list q2
     exact ⟨.none_list  p2.isList hu0,.none_list  p2.isList hu0,.none_list  p2.isList hu0⟩
   | tup es =>
     unfold aN at h2
     obtain ⟨b,ys,rfl,q2,r2⟩:=h2
     cases ry
     obtain ⟨its2,rv2,p2,_⟩:=I.tuple q2
     have p2:s.heap.IsTuple b its2.toArray:=p2
     exact ⟨.none_tuple  p2 hu0,.none_tuple  p2 hu0,.none_tuple  p2 hu0⟩
 | bl p =>
   unfold aN at h1
   subst h1
   cases rx
   cases e with
   | non =>
     unfold aN at h2
     subst h2
     cases ry
     exact ⟨.bool_none p,.bool_none p,.bool_none p⟩
   | bl q =>
     unfold aN at h2
     subst h2
     cases ry
     unfold df
     exact ⟨.bool_bool p q,.bool_bool p q,.bool_bool p q⟩
   | int q =>
     unfold aN at h2
     subst h2
     obtain ⟨tq,rfl⟩:=ry
     unfold df
     exact ⟨.bool_int p q tq,.bool_int p q tq,.bool_int p q tq⟩
   | str q =>
     unfold aN at h2
     subst h2
     obtain ⟨tq,rfl⟩:=ry
     exact ⟨.bool_str p q tq,.bool_str p q tq,.bool_str p q tq⟩
   | lst es =>
     unfold aN at h2
     obtain ⟨b,ys,rfl,q2,r2⟩:=h2
     cases ry
     obtain ⟨its2,rv2,p2,_⟩:=I.list q2
     exact ⟨.bool_list p p2.isList hu0,.bool_list p p2.isList hu0,.bool_list p p2.isList hu0⟩
   | tup es =>
     unfold aN at h2
     obtain ⟨b,ys,rfl,q2,r2⟩:=h2
     cases ry
     obtain ⟨its2,rv2,p2,_⟩:=I.tuple q2
     have p2:s.heap.IsTuple b its2.toArray:=p2
     exact ⟨.bool_tuple p p2 hu0,.bool_tuple p p2 hu0,.bool_tuple p p2 hu0⟩
 | int p =>
   unfold aN at h1
   subst h1
   obtain ⟨tp,rfl⟩:=rx
   cases e with
   | non =>
     unfold aN at h2
     subst h2
     cases ry
     exact ⟨.int_none p tp,.int_none p tp,.int_none p tp⟩
   | bl q =>
     unfold aN at h2
     subst h2
     cases ry
     unfold df
     exact ⟨.int_bool p tp q,.int_bool p tp q,.int_bool p tp q⟩
   | int q =>
     unfold aN at h2
     subst h2
     obtain ⟨tq,rfl⟩:=ry
     unfold df
     exact ⟨.int_int p tp q tq,.int_int p tp q tq,.int_int p tp q tq⟩
   | str q =>
     unfold aN at h2
     subst h2
     obtain ⟨tq,rfl⟩:=ry
     exact ⟨.int_str p tp q tq,.int_str p tp q tq,.int_str p tp q tq⟩
   | lst es =>
     unfold aN at h2
     obtain ⟨b,ys,rfl,q2,r2⟩:=h2
     cases ry
     obtain ⟨its2,rv2,p2,_⟩:=I.list q2
     exact ⟨.int_list p tp p2.isList hu0,.int_list p tp p2.isList hu0,.int_list p tp p2.isList hu0⟩
   | tup es =>
     unfold aN at h2
     obtain ⟨b,ys,rfl,q2,r2⟩:=h2
     cases ry
     obtain ⟨its2,rv2,p2,_⟩:=I.tuple q2
     have p2:s.heap.IsTuple b its2.toArray:=p2
     exact ⟨.int_tuple p tp p2 hu0,.int_tuple p tp p2 hu0,.int_tuple p tp p2 hu0⟩
 | str p =>
   unfold aN at h1
   subst h1
   obtain ⟨tp,rfl⟩:=rx
   cases e with
   | non =>
     unfold aN at h2
     subst h2
     cases ry
     exact ⟨.str_none p tp,.str_none p tp,.str_none p tp⟩
   | bl q =>
     unfold aN at h2
     subst h2
     cases ry
     exact ⟨.str_bool p tp q,.str_bool p tp q,.str_bool p tp q⟩
   | int q =>
     unfold aN at h2
     subst h2
     obtain ⟨tq,rfl⟩:=ry
     exact ⟨.str_int p tp q tq,.str_int p tp q tq,.str_int p tp q tq⟩
   | str q =>
     unfold aN at h2
     subst h2
     obtain ⟨tq,rfl⟩:=ry
     unfold df
     exact ⟨.str_str p tp q tq,.str_str p tp q tq,.str_str p tp q tq⟩
   | lst es =>
     unfold aN at h2
     obtain ⟨b,ys,rfl,q2,r2⟩:=h2
     cases ry
     obtain ⟨its2,rv2,p2,_⟩:=I.list q2
     exact ⟨.str_list p tp p2.isList hu0,.str_list p tp p2.isList hu0,.str_list p tp p2.isList hu0⟩
   | tup es =>
     unfold aN at h2
     obtain ⟨b,ys,rfl,q2,r2⟩:=h2
     cases ry
     obtain ⟨its2,rv2,p2,_⟩:=I.tuple q2
     have p2:s.heap.IsTuple b its2.toArray:=p2
     exact ⟨.str_tuple p tp p2 hu0,.str_tuple p tp p2 hu0,.str_tuple p tp p2 hu0⟩
 | lst ds =>
   unfold aN at h1
   obtain ⟨a,xs,rfl,q1,r1⟩:=id h1
   cases rx
   obtain ⟨its,rv,p1,_⟩:=I.list q1
   have p1:s.heap.IsList a its.toArray:=p1.isList
   cases e with
   | non =>
     unfold aN at h2
     subst h2
     cases ry
     exact ⟨.list_none  p1 hu0,.list_none  p1 hu0,.list_none  p1 hu0⟩
   | bl q =>
     unfold aN at h2
     subst h2
     cases ry
     exact ⟨.list_bool q p1 hu0,.list_bool q p1 hu0,.list_bool q p1 hu0⟩
   | int q =>
     unfold aN at h2
     subst h2
     obtain ⟨tq,rfl⟩:=ry
     exact ⟨.list_int q tq p1 hu0,.list_int q tq p1 hu0,.list_int q tq p1 hu0⟩
   | str q =>
     unfold aN at h2
     subst h2
     obtain ⟨tq,rfl⟩:=ry
     exact ⟨.list_str q tq p1 hu0,.list_str q tq p1 hu0,.list_str q tq p1 hu0⟩
   | lst es =>
     unfold aN at h2
     obtain ⟨b,ys,rfl,q2,r2⟩:=id h2
     cases ry
     obtain ⟨its2,rv2,p2,_⟩:=I.list q2
     have p2:s.heap.IsList b its2.toArray:=p2.isList
     have el:=j4 I n ih (by unfold i4 at hn; omega) A hu r1 r2 rv rv2 (by unfold i4 at hn; omega)
     have l1:its.toArray.size=ds.length:=by rw [List.size_toArray,← rv.length,r1.len]
     have l2:its2.toArray.size=es.length:=by rw [List.size_toArray,← rv2.length,r2.len]
     have dr:=gm ds es
     have key:SeqAt.RcAt A s (.ref a) (.ref b) (cz ds es)∧SeqAt.RcNeAt A s (.ref a) (.ref b) (!cz ds es):=by
      by_cases hl:ds.length=es.length
      ·have hs:its.toArray.size=its2.toArray.size:=by rw [l1,l2,hl]
       have z:(List.range its.toArray.size).all (fun j=>df (ds.getD j .non) (es.getD j .non))=cz ds es:=by rw [dr,l1,hl]; simp
       have c1:=SeqAt.RcAt.lists p1 p2 hs hu0 el
       have c2:=SeqAt.RcNeAt.lists p1 p2 hs hu0 el
       rw [z] at c1 c2
       exact ⟨c1,c2⟩
      ·have z:cz ds es=false:=by rw [dr]; simp [hl]
       have hs:(its.toArray.size != its2.toArray.size)=true:=by rw [l1,l2]; simpa using hl
       rw [z]
       exact ⟨SeqAt.RcAt.lists_lengths p1 p2 hs hu0,SeqAt.RcNeAt.lists_lengths p1 p2 hs hu0⟩
     have eqd:df (.lst ds) (.lst es)=cz ds es:=by rw [df]
     by_cases hab:a=b
     ·subst hab
      have z:=kd I (.lst ds) (.lst es) (.ref a) (by unfold aN; exact ⟨a,xs,rfl,q1,r1⟩) (by unfold aN; exact ⟨a,ys,rfl,q2,r2⟩)
      refine ⟨by rw [eqd]; exact key.1,by rw [z]; exact .same _,by rw [eqd]; exact key.2⟩
     ·rw [eqd]
      exact ⟨key.1,.of_refs hab key.1,key.2⟩
   | tup es =>
     unfold aN at h2
     obtain ⟨b,ys,rfl,q2,r2⟩:=id h2
     cases ry
     obtain ⟨its2,rv2,p2,_⟩:=I.tuple q2
     have p2:s.heap.IsTuple b its2.toArray:=p2
     exact ⟨.list_tuple p1 p2 hu0,.list_tuple p1 p2 hu0,.list_tuple p1 p2 hu0⟩
 | tup ds =>
   unfold aN at h1
   obtain ⟨a,xs,rfl,q1,r1⟩:=id h1
   cases rx
   obtain ⟨its,rv,p1,_⟩:=I.tuple q1
   have p1:s.heap.IsTuple a its.toArray:=p1
   cases e with
   | non =>
     unfold aN at h2
     subst h2
     cases ry
     exact ⟨.tuple_none  p1 hu0,.tuple_none  p1 hu0,.tuple_none  p1 hu0⟩
   | bl q =>
     unfold aN at h2
     subst h2
     cases ry
     exact ⟨.tuple_bool q p1 hu0,.tuple_bool q p1 hu0,.tuple_bool q p1 hu0⟩
   | int q =>
     unfold aN at h2
     subst h2
     obtain ⟨tq,rfl⟩:=ry
     exact ⟨.tuple_int q tq p1 hu0,.tuple_int q tq p1 hu0,.tuple_int q tq p1 hu0⟩
   | str q =>
     unfold aN at h2
     subst h2
     obtain ⟨tq,rfl⟩:=ry
     exact ⟨.tuple_str q tq p1 hu0,.tuple_str q tq p1 hu0,.tuple_str q tq p1 hu0⟩
   | lst es =>
     unfold aN at h2
     obtain ⟨b,ys,rfl,q2,r2⟩:=id h2
     cases ry
     obtain ⟨its2,rv2,p2,_⟩:=I.list q2
     have p2:s.heap.IsList b its2.toArray:=p2.isList
     exact ⟨.tuple_list p1 p2 hu0,.tuple_list p1 p2 hu0,.tuple_list p1 p2 hu0⟩
   | tup es =>
     unfold aN at h2
     obtain ⟨b,ys,rfl,q2,r2⟩:=id h2
     cases ry
     obtain ⟨its2,rv2,p2,_⟩:=I.tuple q2
     have p2:s.heap.IsTuple b its2.toArray:=p2
     have el:=j4 I n ih (by unfold i4 at hn; omega) A hu r1 r2 rv rv2 (by unfold i4 at hn; omega)
     have l1:its.toArray.size=ds.length:=by rw [List.size_toArray,← rv.length,r1.len]
     have l2:its2.toArray.size=es.length:=by rw [List.size_toArray,← rv2.length,r2.len]
     have dr:=gm ds es
     have key:SeqAt.RcAt A s (.ref a) (.ref b) (cz ds es)∧SeqAt.RcNeAt A s (.ref a) (.ref b) (!cz ds es):=by
      have z:((List.range (min its.toArray.size its2.toArray.size)).all (fun j=>df (ds.getD j .non) (es.getD j .non))&&its.toArray.size == its2.toArray.size)=cz ds es:=by rw [dr,l1,l2]
      have c1:=SeqAt.RcAt.tuples p1 p2 hu0 el
      have c2:=SeqAt.RcNeAt.tuples p1 p2 hu0 el
      rw [z] at c1 c2
      exact ⟨c1,c2⟩
     have eqd:df (.tup ds) (.tup es)=cz ds es:=by rw [df]
     by_cases hab:a=b
     ·subst hab
      have z:=kd I (.tup ds) (.tup es) (.ref a) (by unfold aN; exact ⟨a,xs,rfl,q1,r1⟩) (by unfold aN; exact ⟨a,ys,rfl,q2,r2⟩)
      refine ⟨by rw [eqd]; exact key.1,by rw [z]; exact .same _,by rw [eqd]; exact key.2⟩
     ·rw [eqd]
      exact ⟨key.1,.of_refs hab key.1,key.2⟩
theorem iI (I:Inv X pins σ H s):∀ (n:Nat)(A:Around)(d e:D)(x y:V)(u v:Value),i4 d≤n->A.units + n < cLine->aN X.K H d x->aN X.K H e y->aE x u->aE y v →
 SeqAt.RcAt A s u v (df d e)∧SeqAt.EqAt A s u v (df d e)∧SeqAt.RcNeAt A s u v (!df d e):=by
 intro n
 induction n with
 | zero=>exact fun A d e x y u v hn hu h1 h2 rx ry=>lK I 0 (fun z=>absurd z (by simp)) A d e x y u v hn hu h1 h2 rx ry
 | succ n ih=>exact fun A d e x y u v hn hu h1 h2 rx ry=>lK I (n + 1) (fun _ A d e x y u v hn hu h1 h2 rx ry=>(ih A d e x y u v hn hu h1 h2 rx ry).2.1) A d e x y u v hn hu h1 h2 rx ry
end
section
variable {X:Cx}
def BK (K:Frag)(neg:Bool):R2:=fun x y H Q=>∃ d e,aN K H d x∧aN K H e y∧i4 d≤32∧Q (.bl (df d e != neg)) H
theorem xK {k:Nat}(hr:Room k X.A):eM X (compareOp .Eq) (BK X.K false):=by
 intro pins s σ H x y v u Q I rx ry h
 obtain ⟨d,e,h1,h2,hd,q⟩:=h
 have z:=(iI I 32 X.A d e x y v u hd (by have:=hr.units; omega) h1 h2 rx ry).1
 exact z X.prog X.w X.xe _ ⟨.bl (df d e),H,I,rfl,by simpa using q⟩
theorem j7 {k:Nat}(hr:Room k X.A):eM X (compareOp .NotEq) (BK X.K true):=by
 intro pins s σ H x y v u Q I rx ry h
 obtain ⟨d,e,h1,h2,hd,q⟩:=h
 have z:=(iI I 32 X.A d e x y v u hd (by have:=hr.units; omega) h1 h2 rx ry).2.2
 exact z X.prog X.w X.xe _ ⟨.bl (!df d e),H,I,rfl,by
  have e1:(df d e != true) = !df d e:=by cases df d e <;> rfl
  rw [e1] at q
  exact q⟩
end
end L2
namespace Nm
def cG (a b:Int):Int:=(Int.gcd a b:Int)
def dv (t b:Int):Int:=if b < 0 then -(cG t b) else cG t b
def cR (t b:Int):Int:=t.fdiv (dv t b)
def cg (t b:Int):Int:=b.fdiv (dv t b)
theorem d0 {t b:Int}(h:b≠0):0 < cG t b:=by
 unfold cG
 have:0 < Int.gcd t b:=Int.gcd_pos_of_ne_zero_right _ h
 omega
theorem lU {t b:Int}(h:b≠0):dv t b≠0:=by
 have:=d0 (t:=t) h
 unfold dv
 split <;> omega
theorem D8 {t b:Int}:dv t b ∣ t:=by
 unfold dv cG
 split
 ·exact Int.neg_dvd.mpr (Int.gcd_dvd_left ..)
 ·exact Int.gcd_dvd_left ..
theorem Ef {t b:Int}:dv t b ∣ b:=by
 unfold dv cG
 split
 ·exact Int.neg_dvd.mpr (Int.gcd_dvd_right ..)
 ·exact Int.gcd_dvd_right ..
theorem pU {a b:Int}(h:b ∣ a)(hb:b≠0):a.fdiv b * b=a:=by
 obtain ⟨c,rfl⟩:=h
 rw [Int.mul_fdiv_cancel_left _ hb,Int.mul_comm]
theorem rS {t b:Int}(h:b≠0):cR t b * dv t b=t:=pU D8 (lU h)
theorem lz {t b:Int}(h:b≠0):cg t b * dv t b=b:=pU Ef (lU h)
theorem nM {t b:Int}(h:b≠0):0 < cg t b:=by
 have e:=lz (t:=t) h
 have g:=d0 (t:=t) h
 by_cases hb:b < 0
 ·have hd:dv t b = -(cG t b):=by unfold dv; rw [if_pos hb]
  rw [hd] at e
  by_cases hl:0 < cg t b
  ·exact hl
  ·have:0≤cg t b * -(cG t b):=by
    have:=Int.mul_nonneg_of_nonpos_of_nonpos (a:=cg t b) (b:=-(cG t b)) (by omega) (by omega)
    exact this
   omega
 ·have hd:dv t b=cG t b:=by unfold dv; rw [if_neg hb]
  rw [hd] at e
  by_cases hl:0 < cg t b
  ·exact hl
  ·have:cg t b * cG t b≤0:=Int.mul_nonpos_of_nonpos_of_nonneg (by omega) (by omega)
   omega
theorem mh {t b:Int}:(dv t b).natAbs=Int.gcd t b:=by
 unfold dv cG
 split <;> simp
theorem nQ {t b:Int}(h:b≠0):Int.gcd (cR t b) (cg t b)=1:=by
 have e1:=rS (t:=t) h
 have e2:=lz (t:=t) h
 have g:0 < Int.gcd t b:=Int.gcd_pos_of_ne_zero_right _ h
 have e3:Int.gcd (cR t b * dv t b) (cg t b * dv t b)=Int.gcd (cR t b) (cg t b) * (dv t b).natAbs:=Int.gcd_mul_right ..
 rw [e1,e2,mh] at e3
 have:Int.gcd (cR t b) (cg t b) * Int.gcd t b=1 * Int.gcd t b:=by omega
 exact Nat.eq_of_mul_eq_mul_right g this
theorem qH {t b t' b':Int}(h:b≠0)(hp:0 < b')(hg:Int.gcd t' b'=1)(he:t * b'=t' * b):cR t b=t'∧cg t b=b':=by
 have e1:=rS (t:=t) h
 have e2:=lz (t:=t) h
 have g:=lU (t:=t) h
 have lp:=nM (t:=t) h
 have lg:=nQ (t:=t) h
 have e3:cR t b * b'=t' * cg t b:=by
  have z:(cR t b * b') * dv t b=(t' * cg t b) * dv t b:=by
   rw [Int.mul_right_comm,e1,he,Int.mul_assoc,e2]
  exact Int.eq_of_mul_eq_mul_right g z
 have n3:(cR t b).natAbs * b'.natAbs=t'.natAbs * (cg t b).natAbs:=by
  have:=congrArg Int.natAbs e3
  rw [Int.natAbs_mul,Int.natAbs_mul] at this
  exact this
 have c1:Nat.Coprime (cg t b).natAbs (cR t b).natAbs:=by
  rw [Nat.coprime_comm]
  exact lg
 have c2:Nat.Coprime b'.natAbs t'.natAbs:=by
  rw [Nat.coprime_comm]
  exact hg
 have d1:(cg t b).natAbs ∣ b'.natAbs:=c1.dvd_of_dvd_mul_left ⟨t'.natAbs,by rw [n3,Nat.mul_comm]⟩
 have d2:b'.natAbs ∣ (cg t b).natAbs:=c2.dvd_of_dvd_mul_left ⟨(cR t b).natAbs,by rw [← n3,Nat.mul_comm]⟩
 have e4:(cg t b).natAbs=b'.natAbs:=Nat.dvd_antisymm d1 d2
 have e5:cg t b=b':=by omega
 refine ⟨?_,e5⟩
 rw [e5] at e3
 exact Int.eq_of_mul_eq_mul_right (by omega) e3
theorem kE {t b:Int}(hp:0 < b)(hg:Int.gcd t b=1):cR t b=t∧cg t b=b:=qH (by omega) hp hg rfl
theorem pW (a b:Int):Int.gcd b (a.fmod b)=Int.gcd a b:=by
 rw [Int.fmod_def,Int.gcd_comm a b]
 first
  | exact Int.gcd_sub_mul_left_right ..
  | simp
theorem sS (a b:Int)(h:b≠0):(a.fmod b).natAbs < b.natAbs:=by
 by_cases hb:0 < b
 ·have h1:=Int.fmod_lt_of_pos a hb
  have h2:=Int.fmod_nonneg_of_pos a hb
  omega
 ·have e:a.fmod b = -((-a).fmod (-b)):=by
   have:=Int.fmod_def a b
   rw [Int.neg_fmod_neg]
   omega
  have h1:=Int.fmod_lt_of_pos (-a) (b:=-b) (by omega)
  have h2:=Int.fmod_nonneg_of_pos (-a) (b:=-b) (by omega)
  omega
def sg (b:Int):Int:=if b < 0 then -1 else 1
def ab (b:Int):Int:=if b < 0 then -b else b
theorem jH (b:Int):ab b=(b.natAbs:Int):=by unfold ab; split <;> omega
theorem CL {t b:Int}(h:b≠0):(sg b * t).fdiv (cG t b)=cR t b:=by
 have g:=d0 (t:=t) h
 have e:=rS (t:=t) h
 have z:sg b * t=cR t b * cG t b:=by
  unfold sg dv at *
  split
  ·rename_i hb
   rw [if_pos hb] at e
   have:cR t b * -cG t b = -(cR t b * cG t b):=by rw [Int.mul_neg]
   omega
  ·rename_i hb
   rw [if_neg hb] at e
   omega
 rw [z,Int.mul_fdiv_cancel _ (by omega)]
theorem C0 {t b:Int}(h:b≠0):(ab b).fdiv (cG t b)=cg t b:=by
 have g:=d0 (t:=t) h
 have e:=lz (t:=t) h
 have z:ab b=cg t b * cG t b:=by
  unfold ab dv at *
  split
  ·rename_i hb
   rw [if_pos hb] at e
   have:cg t b * -cG t b = -(cg t b * cG t b):=by rw [Int.mul_neg]
   omega
  ·rename_i hb
   rw [if_neg hb] at e
   omega
 rw [z,Int.mul_fdiv_cancel _ (by omega)]
theorem BZ (a b:Int):Int.gcd (ab a) (ab b)=Int.gcd a b:=by
 rw [jH,jH]
 simp [Int.gcd]
def B (n:Nat)(i:Int):Prop:=i.natAbs < 2 ^ n
theorem B.mono {n m:Nat}{i:Int}(h:B n i)(hn:n≤m):B m i:=Nat.lt_of_lt_of_le h (Nat.pow_le_pow_right (by decide) hn)
theorem B.mul {n m:Nat}{i j:Int}(h:B n i)(k:B m j):B (n + m) (i * j):=by
 unfold B at *
 rw [Int.natAbs_mul,Nat.pow_add]
 exact Nat.mul_lt_mul'' h k
theorem B.add {n:Nat}{i j:Int}(h:B n i)(k:B n j):B (n + 1) (i + j):=by
 unfold B at *
 rw [Nat.pow_succ]
 have:=Int.natAbs_add_le i j
 omega
theorem B.le {n:Nat}{i j:Int}(h:B n i)(k:j.natAbs≤i.natAbs):B n j:=Nat.lt_of_le_of_lt k h
theorem qf {x d y:Int}(e:x * d=y)(hd:d≠0):x.natAbs≤y.natAbs:=by
 have:x.natAbs * d.natAbs=y.natAbs:=by rw [← Int.natAbs_mul,e]
 have h1:1≤d.natAbs:=by omega
 calc x.natAbs=x.natAbs * 1:=(Nat.mul_one _).symm
  _≤x.natAbs * d.natAbs:=Nat.mul_le_mul_left _ h1
  _=y.natAbs:=this
theorem rL {t b:Int}(h:b≠0):(cR t b).natAbs≤t.natAbs:=qf (rS h) (lU h)
theorem sV {t b:Int}(h:b≠0):(cg t b).natAbs≤b.natAbs:=qf (lz h) (lU h)
theorem AV {t b:Int}(h:b≠0):(dv t b).natAbs≤b.natAbs:=by
 have e:=lz (t:=t) h
 have lp:=nM (t:=t) h
 exact qf (x:=dv t b) (d:=cg t b) (by rw [Int.mul_comm]; exact e) (by omega)
theorem Bp {t b:Int}(h:b≠0):(cG t b).natAbs≤b.natAbs:=by
 have e:=AV (t:=t) h
 rw [mh] at e
 unfold cG
 simpa using e
structure Num (p t b:Int):Prop where
 pos:0 < b
 red:Int.gcd t b=1
 pr:p≠0->b=1∧0≤t∧t < p
theorem Num.ofP {p t:Int}(h0:0≤t)(h1:t < p):Num p t 1:=⟨by decide,by simp,fun _=>⟨rfl,h0,h1⟩⟩
theorem Num.low {t b:Int}(h:b≠0):Num 0 (cR t b) (cg t b):=⟨nM h,nQ h,fun z=>absurd rfl z⟩
def gz (p t b:Int):Int:=if p=0 then cR t b else t % p
def gq (p t b:Int):Int:=if p=0 then cg t b else 1
theorem Num.set {p t b:Int}(hp:0≤p)(h:b≠0):Num p (gz p t b) (gq p t b):=by
 unfold gz gq
 by_cases z:p=0
 ·subst z
  simp only [if_true]
  exact Num.low h
 ·simp only [z,if_false]
  exact Num.ofP (Int.emod_nonneg _ z) (Int.emod_lt_of_pos _ (by omega))
theorem Num.self {p t b:Int}(n:Num p t b)(hp:0≤p):gz p t b=t∧gq p t b=b:=by
 unfold gz gq
 by_cases z:p=0
 ·simp only [z,if_true]
  exact kE n.pos n.red
 ·simp only [z,if_false]
  obtain ⟨h1,h2,h3⟩:=n.pr z
  exact ⟨Int.emod_eq_of_lt h2 h3,h1.symm⟩
end Nm
namespace L2
open PySem PySem.Spec PyProof.Rows PySem.W
theorem AJ {i:Int}(h:Nm.B 9000 i):i.natAbs.log2 < 9000:=by
 by_cases z:i.natAbs=0
 ·rw [z]; decide
 ·exact (Nat.log2_lt z).mpr h
theorem wq {i:Int}(h:Nm.B 9000 i):Builtin.Int.intBits i≤2 ^ 20:=by
 have l:=AJ h
 unfold Builtin.Int.intBits
 split
 ·exact Nat.zero_le _
 ·have:(9000:Nat)≤2 ^ 20:=by decide
  omega
section
variable {X:Cx}
theorem eY:eM X (binaryOp .FloorDiv) (rI (fun _ j=>j≠0∧Nm.B 9000 j) fun i j=>.int (i.fdiv j)):=Bt fun _ _ _ _ _ _ _ hc q=>floordiv_int hc.1 q (.inl (PyProof.noPylong_of_log2 (AJ hc.2)))
theorem fF:eM X (binaryOp .Mult) (rI (fun i j=>Nm.B 9000 i∧Nm.B 9000 j) fun i j=>.int (i * j)):=Bt fun _ _ _ _ _ _ _ hc q=>mul_int q (IntMulOk.of_bits (wq hc.1) (wq hc.2))
end
def oG:List Expr->Option (List Int)
 | []=>some []
 | .Constant (.int i) _ _ :: es=>(oG es).map (i :: ·)
 | _=>none
def Dv (ns:List Int):TA:=fun _ H Q=>Q (ns.map V.int) H
theorem t7 {X:Cx}:∀ {es:List Expr}{ns:List Int},oG es=some ns->PA X es (Dv ns)
 | [],ns,h=>by
   cases h
   exact ae
 | .Constant (.int i) k p :: es,ns,h=>by
   unfold oG at h
   cases e:oG es with
   | none=>rw [e] at h; cases h
   | some ms =>
     rw [e] at h
     cases h
     exact aj (ai (j:=k) (pos:=p)) (t7 e)
def DH (ns:List Int):TE:=fun _ H Q=>∀ p,H p=none->Q (.ref p) (upd H p (.lst (ns.map V.int)))
theorem nZ {X:Cx}{es:List Expr}{pos:Pos}{ns:List Int}(h:oG es=some ns)(hl:ns.length≤1000):PE X (.List es pos) (DH ns):=by
 intro pins s σ H Q I q
 refine bM (t7 h) pins s σ H Q I ?_
 refine ⟨?_,q⟩
 rw [List.length_map]
 exact Nat.le_of_lt (uY hl)
end L2
namespace K04
open PySem L2 PySem.W Nm
abbrev CU:Stmt:=(bt 30)
abbrev tQ:Stmt:=(bt 31)
def cj (t b:Int):HO:=.tup [.int t,.int b]
def spGcd:Sp:=fun vs H Q _=>∃ a b:Int,vs=[.int a,.int b]∧Q (.int (cG a b)) H
def spLowest:Sp:=fun vs H Q _=>∃ t b:Int,vs=[.int t,.int b]∧b≠0∧B 9000 b∧∀ p,H p=none->Q (.ref p) (upd H p (cj (cR t b) (cg t b)))
theorem lG {p:Int}(h:p∈primes):2≤p∧p≤97:=by
 have:∀ q∈primes,2≤q∧q≤97:=by decide
 exact this p h
variable {P:Program}{w:World}{K:PySem.W.Frag}{mg:Str->Option Value}{base:Heap}
theorem AX:FnScope ["one","other"] ["one","other"] (ar CU):=eO (by decide +kernel)
theorem Bx {f:Addr}{fd:FuncData}(F:Fun K "common_divisor" "common_divisor" CU f fd)(mA:mg "abs"=none):FnOk P w K mg base (bz P w) 1 f fd ["one","other"] spGcd:=by
 refine F.okN AX (fun vs H Q E h=>?_) (fun cdv A outer s H vs Q E hr h=>?_)
 ·obtain ⟨a,b,rfl,_⟩:=h
  rfl
 ·obtain ⟨a,b,rfl,q⟩:=h
  refine ⟨_,ao (p4 PassesOwn.never (pN (pv 1) (fun _=>rfl)) (av (yp (i:=0) (j:=1) rfl AX.nd rfl rfl (by decide) rfl rfl (aj (pv 1) (aj (aL tO (pv 0) (pv 1)) ae)) rfl)))
   (av (aD (az hU (by rfl) mA (by rfl) (aj (pv 0) ae)))),?_⟩
  refine ⟨fun m σ H'=>∃ c d:Int,σ=[some (.int c),some (.int d)]∧H'=H∧m=d.natAbs∧Int.gcd c d=Int.gcd a b,⟨_,a,b,rfl,rfl,rfl,rfl⟩,?_⟩
  rintro m σ H' ⟨c,d,rfl,rfl,rfl,hg⟩
  refine ⟨_,rfl,_,rfl,?_⟩
  refine bQ (fun h=>?_) (fun h=>?_)
  ·have hd:d≠0:=by simpa using h
   refine ⟨fun σ' H''=>∃ c' d':Int,σ'=[some (.int c'),some (.int d')]∧H''=H'∧d'.natAbs < d.natAbs∧Int.gcd c' d'=Int.gcd a b,fun σ' H'' ⟨c',d',e1,e2,e3,e4⟩=>⟨_,e3,c',d',e1,e2,rfl,e4⟩,?_⟩
   refine ⟨_,rfl,_,rfl,_,rfl,_,_,rfl,rfl,hd,_,_,rfl,d,c.fmod d,rfl,rfl,sS c d hd,?_⟩
   rw [pW,hg]
  ·have hd:d=0:=by simpa using h
   subst hd
   refine ⟨_,rfl,c,rfl,?_⟩
   have e:(if c < 0 then -c else c)=cG a b:=by
    unfold cG
    rw [← hg]
    have:=jH c
    unfold ab at this
    rw [this]
    simp
   rw [e]
   exact q
theorem jM:FnScope ["top","bottom","divisor"] ["top","bottom"] (ar tQ):=eO (by decide +kernel)
theorem ug {f fg:Addr}{fd fdg:FuncData}(F:Fun K "lowest" "lowest" tQ f fd)(FG:FnOk P w K mg base (bz P w) 1 fg fdg ["one","other"] spGcd)(bG:L2.aH K fdg ["one","other"] [])(mG:mg "common_divisor"=some (.ref fg))(kG:keepIn K (.ref fg)=true):
 FnOk P w K mg base (bz P w) 2 f fd ["top","bottom"] spLowest:=by
 refine F.okN jM (fun vs H Q E h=>?_) (fun cdv A outer s H vs Q E hr h=>?_)
 ·obtain ⟨a,b,rfl,_⟩:=h
  rfl
 ·obtain ⟨t,b,rfl,hb,hB,q⟩:=h
  refine ⟨_,ao (bJ (aJ dZ (pv 1) ai (aI _)) (av (aD (aC (aj (pv 0) (aj ai ae))))) aO)
   (ao (aS (i:=2) jM.nd rfl (Or.inl rfl) (aB FG hr (by rfl) mG kG bG .nil ah (aj (pv 0) (aj (pv 1) ae))))
   (ao (bJ (aJ iQ (pv 1) ai (aI _)) (av (aS (i:=2) jM.nd rfl (Or.inl rfl) (tK nt (pv 2)))) aO)
   (av (aD (aC (aj (aL eY (pv 0) (pv 2)) (aj (aL eY (pv 1) (pv 2)) ae))))))),?_⟩
  refine ⟨_,rfl,rfl,_,rfl,?_⟩
  refine bQ (fun h=>?_) (fun h=>?_)
  ·have e:b=1:=by simpa using h
   subst e
   have z:=kE (t:=t) (b:=1) (by decide) (by simp)
   refine ⟨_,rfl,kQ,fun p hp=>?_⟩
   have y:=q p hp
   rw [z.1,z.2] at y
   exact y
  ·refine ⟨_,rfl,_,rfl,t,b,rfl,?_⟩
   refine ⟨_,rfl,_,_,rfl,rfl,_,rfl,?_⟩
   have gp:=d0 (t:=t) hb
   have fin:∀ d:Int,d=dv t b->Cm (cT (mJ (rI (fun _ j=>j≠0∧Nm.B 9000 j) fun i j=>V.int (i.fdiv j)) (dF 0) (dF 2)) (cT (mJ (rI (fun _ j=>j≠0∧Nm.B 9000 j) fun i j=>V.int (i.fdiv j)) (dF 1) (dF 2)) tNil)) [some (.int t),some (.int b),some (.int d)] H Q:=by
    intro d hd
    have hd0:d≠0:=by rw [hd]; exact lU hb
    have hdB:B 9000 d:=by rw [hd]; exact hB.le (AV hb)
    refine ⟨_,rfl,_,rfl,_,_,rfl,rfl,⟨hd0,hdB⟩,_,rfl,_,rfl,_,_,rfl,rfl,⟨hd0,hdB⟩,kQ,fun p hp=>?_⟩
    have y:=q p hp
    unfold cR cg at y
    rw [← hd] at y
    exact y
   refine bQ (fun h2=>?_) (fun h2=>?_)
   ·have e:b < 0:=by simpa using h2
    exact ⟨_,rfl,_,rfl,fin _ (by unfold dv; rw [if_pos e])⟩
   ·have e:¬ b < 0:=by simpa using h2
    exact fin _ (by unfold dv; rw [if_neg e])
abbrev wU:Stmt:=(bt 9)
abbrev r8:Stmt:=(bt 38)
abbrev xm:Stmt:=bD (bt 33) 0
inductive Th (H:Hp):V->String->Prop where
 | non:Th H .non "NoneType"
 | bl (b:Bool):Th H (.bl b) "bool"
 | int (i:Int):Th H (.int i) "int"
 | str (x:Str):Th H (.str x) "str"
 | lst {a:Addr}{xs:List V}(e:H a=some (.lst xs)):Th H (.ref a) "list"
 | tup {a:Addr}{xs:List V}(e:H a=some (.tup xs)):Th H (.ref a) "tuple"
 | dK {a:Addr}{kvs:List (Key × V)}(e:H a=some (.dK kvs)):Th H (.ref a) "dict"
theorem Th.ty {K:Frag}{H:Hp}{x:V}{T:String}(h:Th H x T):TyX K H x (.type T):=by
 cases h with
 | non=>exact .of .non
 | bl b=>exact .of (.bl b)
 | int i=>exact .of (.int i)
 | str x=>exact .of (.str x)
 | lst e=>exact .of (.lst e)
 | tup e=>exact .of (.tup e)
 | dK e=>exact .of (.dK e)
def cp:V->Bool
 | .int _=>true
 | _=>false
def Dr:V->Bool
 | .int _=>true
 | .bl _=>true
 | _=>false
theorem Th.isInt {K:Frag}{H:Hp}{x:V}{T:String}(h:Th H x T):kitOne K (.type T) (.type "int")=some (Dr x):=by cases h <;> rfl
theorem Th.isBool {K:Frag}{H:Hp}{x:V}{T:String}(h:Th H x T)(hi:Dr x=true):kitOne K (.type T) (.type "bool")=some (!cp x):=by
 cases h with
 | int i=>rfl
 | bl b=>rfl
 | _=>cases hi
def spWhole:Sp:=fun vs H Q _=>∃ x T,vs=[x]∧Th H x T∧Q (.bl (cp x)) H
structure Nones (mg:Str->Option Value):Prop where
 isi:mg "isinstance"=none
 int:mg "int"=none
 bool:mg "bool"=none
theorem yM:FnScope ["thing"] ["thing"] (ar wU):=eO (by decide +kernel)
theorem yE {f:Addr}{fd:FuncData}(F:Fun K "is_whole" "is_whole" wU f fd)(n:Nones mg):FnOk P w K mg base (bz P w) 1 f fd ["thing"] spWhole:=by
 refine F.okN yM (fun vs H Q E h=>?_) (fun cdv A outer s H vs Q E hr h=>?_)
 ·obtain ⟨x,T,rfl,_⟩:=h
  rfl
 ·obtain ⟨x,T,rfl,th,q⟩:=h
  refine ⟨_,av (aD (cW (az bw (by rfl) n.isi (by rfl) (b8 (pv 0) (b8 (cA (by rfl) n.int (by rfl) (show aE (.ty "int") (.type "int") from rfl)) ae)))
   (dO (wH (az bw (by rfl) n.isi (by rfl) (b8 (pv 0) (b8 (cA (by rfl) n.bool (by rfl) (show aE (.ty "bool") (.type "bool") from rfl)) ae))))))),?_⟩
  refine ⟨_,rfl,x,.ty "int",_,_,_,rfl,rfl,th.ty,th.isInt,_,rfl,?_⟩
  refine bQ (fun hi=>?_) (fun hi=>?_)
  ·refine ⟨_,rfl,x,.ty "bool",_,_,_,rfl,rfl,th.ty,th.isBool hi,_,rfl,?_⟩
   simpa using q
  ·have e:cp x=false:=by
    cases th <;> first | rfl | exact absurd rfl hi
   rw [e] at q
   exact q
theorem wI:FnScope ["_law_thing"] ["_law_thing"] (ar r8):=eO (by decide +kernel)
theorem ui {f:Addr}{fd:FuncData}(F:Fun K "_law_whole" "_law_whole" r8 f fd)(n:Nones mg):FnOk P w K mg base (bz P w) 1 f fd ["_law_thing"] spWhole:=by
 refine F.okN wI (fun vs H Q E h=>?_) (fun cdv A outer s H vs Q E hr h=>?_)
 ·obtain ⟨x,T,rfl,_⟩:=h
  rfl
 ·obtain ⟨x,T,rfl,th,q⟩:=h
  refine ⟨_,av (aD (cW (az bw (by rfl) n.isi (by rfl) (b8 (pv 0) (b8 (cA (by rfl) n.int (by rfl) (show aE (.ty "int") (.type "int") from rfl)) ae)))
   (dO (wH (az bw (by rfl) n.isi (by rfl) (b8 (pv 0) (b8 (cA (by rfl) n.bool (by rfl) (show aE (.ty "bool") (.type "bool") from rfl)) ae))))))),?_⟩
  refine ⟨_,rfl,x,.ty "int",_,_,_,rfl,rfl,th.ty,th.isInt,_,rfl,?_⟩
  refine bQ (fun hi=>?_) (fun hi=>?_)
  ·refine ⟨_,rfl,x,.ty "bool",_,_,_,rfl,rfl,th.ty,th.isBool hi,_,rfl,?_⟩
   simpa using q
  ·have e:cp x=false:=by
    cases th <;> first | rfl | exact absurd rfl hi
   rw [e] at q
   exact q
def iU (i:Int):Bool:=i == 0 || primes.any fun p=>p == i
def good:V->Bool
 | .int i=>iU i
 | _=>false
def dD (i:Int):List (Str × V):=[("its_prime",.int i)]
def wu (C NF:Addr):Sp:=fun vs H Q E=>∃ (p dx:Addr)(x:V)(T:String),vs=[.ref p,x]∧Th H x T∧H p=some (.ins C dx [])∧(good x=true->Q .non (upd H p (.ins C dx [("its_prime",x)])))∧(good x=false->E (.ref NF) none H)
structure FieldK (K:Frag)(mg:Str->Option Value)(C:Addr):Prop where
 cl:Cls K C
 nP:cn K C "its_prime"
 mgC:mg "Field"=some (.ref C)
 isC:((clsIn K C).isSome&&typeIn K (.ref C) == some (.type "type"))=true
 ca:findIn K (.ref C) "__class__"=some (some (.builtin "object.__class__"))
 sp:specialIn K (.builtin "object.__class__") "__get__"=some (some (.builtin "getset_descriptor.__get__"))
 tk:takesIn K (.builtin "object.__class__")=some true
 ob:mroIn K C (.type "object")=some true
theorem FieldK.ty {K:Frag}{mg:Str->Option Value}{C:Addr}(c:FieldK K mg C){H:Hp}{p dx:Addr}{fs:List (Str × V)}(e:H p=some (.ins C dx fs)):TyX K H (.ref p) (.ref C):=.of (.ins e c.cl c.ca c.sp c.tk c.ob)
theorem FieldK.is {K:Frag}{mg:Str->Option Value}{C:Addr}(c:FieldK K mg C):kitOne K (.ref C) (.ref C)=some true:=by
 unfold kitOne
 rw [if_pos (by simp)]
theorem FieldK.no {K:Frag}{mg:Str->Option Value}{C:Addr}(c:FieldK K mg C){H:Hp}{x:V}{T:String}(h:Th H x T):kitOne K (.type T) (.ref C)=some false:=by
 show (if (Value.type T == Value.ref C)=true then some true else (if ((clsIn K C).isSome&&typeIn K (.ref C) == some (.type "type"))=true then subIn K (.type T) (.ref C) else none))=some false
 rw [if_neg (by intro z; cases beq_iff_eq.mp z),if_pos c.isC]
 cases h <;> rfl
theorem kg (i:Int):Cr (.int i) (primes.map V.int)=primes.any fun p=>p == i:=by
 unfold Cr
 rw [List.any_map]
 rfl
theorem B9:FnScope ["self","prime"] ["self","prime"] (ar xm):=eO (by decide +kernel)
theorem zU {f fw C NF aP T:Addr}{fd fdw:FuncData}{tF:Tok}(F:FunD K "__init__" "Field.__init__" xm f fd T)(c:FieldK K mg C)(FW:FnOk P w K mg base (bz P w) 1 fw fdw ["thing"] spWhole)(bW:aH K fdw ["thing"] [])(mW:mg "is_whole"=some (.ref fw))(kW:keepIn K (.ref fw)=true)
 (mF:mg "FRACTIONS"=some (.int 0 tF))(mP:mg "PRIMES"=some (.ref aP))(hP:∀ H:Hp,bf K H aP (primes.map V.int))(mN:mg "NoField"=some (.ref NF))(qN:excIn K NF D9 Bw=true):FnOk P w K mg base (bz P w) 2 f fd ["self","prime"] (wu C NF):=by
 refine F.okE B9 (fun vs H Q E h=>?_) (fun cdv A outer s H vs Q E hr h=>?_)
 ·obtain ⟨p,dx,x,T,rfl,_⟩:=h
  rfl
 ·obtain ⟨p,dx,x,T,rfl,th,hp,hq,hE⟩:=h
  refine ⟨_,ao (bJ (PW.pt (cH (cc (cb (aB FW hr (by rfl) mW kW bW .nil ah (b8 (pv 1) ae))))
   (de (PW.pt (xG (aJ dI (pv 1) (dh (by rfl) mF (show aE (.int 0) (.int 0 tF) from ⟨_,rfl⟩)) (aI _)) (sk (aJ mU (pv 1) (dh (by rfl) mP (show aE (.ref aP) (.ref aP) from rfl)) (by rfl))))))))
   (av (ya PySem.F.excBase_ValueError qN rfl rq (by rfl) mN (b8 gr ae))) aO)
   (av (qu (pv 0) (pv 1) rfl)),?_⟩
  have fin:good x=true->∃ (a C' dx':Addr)(fs:List (Str × V)),V.ref p = .ref a∧H a=some (.ins C' dx' fs)∧Cls K C'∧cn K C' "its_prime"∧fs.length < 1000∧Q .non (upd H a (.ins C' dx' (c8 "its_prime" x fs))):=fun g=>⟨p,C,dx,[],rfl,hp,c.cl,c.nP,by decide,hq g⟩
  refine ⟨_,rfl,x,T,rfl,th,_,rfl,?_⟩
  cases th with
  | int i =>
    refine cf ?_
    refine ⟨_,rfl,rfl,_,rfl,?_⟩
    refine bQ (fun h0=>?_) (fun h0=>?_)
    ·refine ⟨_,rfl,aP,_,rfl,.inr (hP _),rfl,rfl,_,rfl,?_⟩
     refine bQ (fun h1=>?_) (fun h1=>?_)
     ·refine ⟨by decide,hE ?_⟩
      have e1:¬ i=0:=by simpa using h0
      have e2:Cr (.int i) (primes.map V.int)=false:=by simpa using h1
      rw [kg] at e2
      show iU i=false
      unfold iU
      rw [e2]
      simpa using e1
     ·have e2:Cr (.int i) (primes.map V.int)=true:=by simpa using h1
      rw [kg] at e2
      exact ⟨_,rfl,_,rfl,fin (by show iU i=true; unfold iU; rw [e2]; simp)⟩
    ·have e1:i=0:=by simpa using h0
     exact cf ⟨_,rfl,_,rfl,fin (by show iU i=true; rw [e1]; rfl)⟩
  | _=>exact bV (bV ⟨by decide,hE rfl⟩)
abbrev AN:Stmt:=bD (bt 33) 6
abbrev oo:Stmt:=bD (bt 33) 10
def FP (p:Int):Prop:=p=0∨p∈primes
theorem FP.nn {p:Int}(h:FP p):0≤p:=by
 rcases h with h | h
 ·omega
 ·have:=lG h; omega
theorem FP.two {p:Int}(h:FP p)(z:p≠0):p∈primes∧2≤p∧p≤97:=by
 rcases h with h | h
 ·exact absurd h z
 ·exact ⟨h,lG h⟩
def lR (C:Addr):Sp:=fun vs H Q _=>∃ (s dx:Addr)(p t b:Int),vs=[.ref s,.int t,.int b]∧H s=some (.ins C dx (dD p))∧FP p∧B 9000 b∧b≠0∧∀ a,H a=none->Q (.ref a) (upd H a (cj (gz p t b) (gq p t b)))
def AG (C:Addr)(g:Int->Int->Int->Int->Int):Sp:=fun vs H Q _=>∃ (s dx a1 a2:Addr)(p t1 b1 t2 b2:Int),vs=[.ref s,.ref a1,.ref a2]∧H s=some (.ins C dx (dD p))∧FP p∧H a1=some (cj t1 b1)∧H a2=some (cj t2 b2) ∧
 B 4000 t1∧B 4000 b1∧B 4000 t2∧B 4000 b2∧b1≠0∧b2≠0∧∀ a,H a=none->Q (.ref a) (upd H a (cj (gz p (g t1 b1 t2 b2) (b1 * b2)) (gq p (g t1 b1 t2 b2) (b1 * b2))))
def jv (t1 b1 t2 b2:Int):Int:=t1 * b2 + t2 * b1
theorem ve:FnScope ["self","top","bottom"] ["self","top","bottom"] (ar oo):=eO (by decide +kernel)
theorem qA {f C fl:Addr}{fd fdl:FuncData}{tF:Tok}(F:Fun K "settled" "Field.settled" oo f fd)(c:FieldK K mg C)(mF:mg "FRACTIONS"=some (.int 0 tF))
 (FL:FnOk P w K mg base (bz P w) 2 fl fdl ["top","bottom"] spLowest)(bL:L2.aH K fdl ["top","bottom"] [])(mL:mg "lowest"=some (.ref fl))(kL:keepIn K (.ref fl)=true):
 FnOk P w K mg base (bz P w) 3 f fd ["self","top","bottom"] (lR C):=by
 refine F.okN ve (fun vs H Q E h=>?_) (fun cdv A outer s H vs Q E hr h=>?_)
 ·obtain ⟨s,dx,p,t,b,rfl,_⟩:=h
  rfl
 ·obtain ⟨s,dx,p,t,b,rfl,hs,hp,hB,hb,q⟩:=h
  refine ⟨_,ao (bJ (aJ dZ (dA (pv 0) rfl) (dh (by rfl) mF (show aE (.int 0) (.int 0 tF) from ⟨_,rfl⟩)) (aI _))
   (av (aD (aB FL hr (by rfl) mL kL bL .nil ah (aj (pv 1) (aj (pv 2) ae))))) aO)
   (av (aD (aC (aj (aL dk (pv 1) (dA (pv 0) rfl)) (aj ai ae))))),?_⟩
  refine ⟨_,rfl,s,C,dx,_,_,rfl,hs,c.cl,c.nP,rfl,rfl,_,rfl,?_⟩
  refine bQ (fun h=>?_) (fun h=>?_)
  ·have hp0:p=0:=by simpa using h
   refine ⟨_,rfl,_,rfl,t,b,rfl,hb,hB,fun a ha=>?_⟩
   have y:=q a ha
   unfold gz gq at y
   rw [if_pos hp0,if_pos hp0] at y
   exact y
  ·have hp0:p≠0:=by simpa using h
   obtain ⟨hpp,p2,p97⟩:=hp.two hp0
   refine ⟨_,rfl,_,rfl,s,C,dx,_,_,rfl,hs,c.cl,c.nP,rfl,_,_,rfl,rfl,(by show (0:Int) < p; omega),kQ,fun a ha=>?_⟩
   have y:=q a ha
   unfold gz gq at y
   rw [if_neg hp0,if_neg hp0] at y
   exact y
theorem a0 (x y:V):qa [x,y] 0=some x:=rfl
theorem a1 (x y:V):qa [x,y] 1=some y:=rfl
theorem Cb:FnScope ["self","one","other"] ["self","one","other"] (ar AN):=eO (by decide +kernel)
theorem v8 {a b:Int}(h:a≠0)(k:b≠0):a * b≠0:=Int.mul_ne_zero h k
theorem y3 {f C fs:Addr}{fd fds:FuncData}(F:Fun K "plus" "Field.plus" AN f fd)(c:FieldK K mg C)(FS:FnOk P w K mg base (bz P w) 3 fs fds ["self","top","bottom"] (lR C))(bS:L2.aH K fds ["self","top","bottom"] [])(mS:L2.Meth K C "settled" fs):
 FnOk P w K mg base (bz P w) 4 f fd ["self","one","other"] (AG C jv):=by
 refine F.okN Cb (fun vs H Q E h=>?_) (fun cdv A outer s H vs Q E hr h=>?_)
 ·obtain ⟨s,dx,a1,a2,p,t1,b1,t2,b2,rfl,_⟩:=h
  rfl
 ·obtain ⟨s,dx,x1,x2,p,t1,b1,t2,b2,rfl,hs,hp,h1,h2,B1,B2,B3,B4,n1,n2,q⟩:=h
  refine ⟨_,av (aD (nG (pv 0) c.cl mS FS hr bS .nil ah (aj (aL eJ (aL fF (aQ aY (pv 1) ai (fun _ _=>rfl)) (aQ aY (pv 2) ai (fun _ _=>rfl))) (aL fF (aQ aY (pv 2) ai (fun _ _=>rfl)) (aQ aY (pv 1) ai (fun _ _=>rfl)))) (aj (aL fF (aQ aY (pv 1) ai (fun _ _=>rfl)) (aQ aY (pv 2) ai (fun _ _=>rfl))) ae)))),?_⟩
  refine ⟨_,rfl,s,dx,_,rfl,hs,rfl,?_⟩
  refine ⟨_,rfl,x1,_,0,_,rfl,rfl,bf.of h1,a0 _ _,_,rfl,x2,_,1,_,rfl,rfl,bf.of h2,a1 _ _,_,_,rfl,rfl,⟨B1.mono (by decide),B4.mono (by decide)⟩,?_⟩
  refine ⟨_,rfl,x2,_,0,_,rfl,rfl,bf.of h2,a0 _ _,_,rfl,x1,_,1,_,rfl,rfl,bf.of h1,a1 _ _,_,_,rfl,rfl,⟨B3.mono (by decide),B2.mono (by decide)⟩,_,_,rfl,rfl,?_⟩
  refine ⟨_,rfl,x1,_,1,_,rfl,rfl,bf.of h1,a1 _ _,_,rfl,x2,_,1,_,rfl,rfl,bf.of h2,a1 _ _,_,_,rfl,rfl,⟨B2.mono (by decide),B4.mono (by decide)⟩,?_⟩
  exact ⟨s,dx,p,_,_,rfl,hs,hp,(B2.mul B4).mono (by decide),v8 n1 n2,q⟩
abbrev AY:Stmt:=(bt 35)
abbrev AF:Stmt:=(bt 36)
abbrev AU:Stmt:=(bt 37)
abbrev AB:Stmt:=(bt 40)
abbrev xw:Stmt:=(bt 41)
theorem ak {H:Hp}{a:Addr}{o:HO}(h:H a=none):aA H (upd H a o):=fun b u e=>by rw [aq (au e h)]; exact e
def xr (K:PySem.W.Frag):Sp:=fun vs H Q _=>∃ (a:Addr)(ns:List Int)(k:Int),vs=[.ref a,.int k]∧br K H a (ns.map V.int)∧ns.length≤63∧0≤k∧k≤63 ∧
 ∀ (p:Addr)(l r:Int),H p=none->0≤r->r < 2147483647->Q (.ref p) (upd H p (.lst [.int l,.int r]))
def spTake:Sp:=fun vs H Q _=>∃ (p:Addr)(l r m:Int),vs=[.ref p,.int m]∧H p=some (.lst [.int l,.int r])∧0≤r∧r < 2147483647∧0 < m∧m < 18446744073709551616 ∧
 ∀ (z l' r':Int),0≤z->z < m->0≤r'->r' < 2147483647->Q (.int z) (upd H p (.lst [.int l',.int r']))
theorem gX {H:Hp}{Q:VK}{k l c:Int}{x:Option V}(hk0:0≤k)(hk1:k≤63)(q:∀ (p:Addr)(l r:Int),H p=none->0≤r->r < 2147483647->Q (.ref p) (upd H p (.lst [.int l,.int r]))):
 yx (cT (dF 3) (cT (mJ (rI (fun _ j=>0 < j) fun i j=>.int (i % j)) (mJ (rI ub fun i j=>.int (i * j)) (mJ (vP fun i j=>.int (i + j)) (mJ (vP fun i j=>.int (i + j)) (mJ (rI (fun _ j=>0 < j) fun i j=>.int (i % j)) (dF 2) (tC (.int 2147483629)))
  (mJ (rI ub fun i j=>.int (i * j)) (mJ (rI ub fun i j=>.int (i * j)) (tC (.int 104729)) (dF 1)) (dF 1))) (tC (.int 7))) (tC (.int 48271))) (tC (.int 2147483647))) tNil)) [x,some (.int k),some (.int c),some (.int l)] H Q:=by
 have h1:(0:Int)≤104729 * k:=by omega
 have h2:104729 * k≤6597927:=by omega
 refine ⟨_,rfl,_,rfl,_,_,rfl,rfl,(by show (0:Int) < 2147483629; decide),_,rfl,_,_,rfl,rfl,.inl ⟨by decide,by decide⟩,_,rfl,_,_,rfl,rfl,.inl ⟨by omega,by omega⟩,_,_,rfl,rfl,_,_,rfl,rfl,_,_,rfl,rfl,.inr ⟨by decide,by decide⟩,_,_,rfl,rfl,(by show (0:Int) < 2147483647; decide),kQ,fun p hp=>?_⟩
 exact q p _ _ hp (Int.emod_nonneg _ (by decide)) (Int.emod_lt_of_pos _ (by decide))
theorem kH:FnScope ["_law_script","_law_k","_law_cell","_law_left"] ["_law_script","_law_k"] (ar AY):=eO (by decide +kernel)
theorem zM {f:Addr}{fd:FuncData}(F:Fun K "_law_room" "_law_room" AY f fd)(hlen:mg "len"=none):FnOk P w K mg base (bz P w) 1 f fd ["_law_script","_law_k"] (xr K):=by
 refine F.okN kH (fun vs H Q E h=>?_) (fun cdv A outer s H vs Q E hr h=>?_)
 ·obtain ⟨a,ns,k,rfl,_⟩:=h
  rfl
 ·obtain ⟨a,ns,k,rfl,hS,hn,hk0,hk1,q⟩:=h
  refine ⟨_,ao (aS (i:=2) kH.nd rfl (Or.inl rfl) ai)
   (ao (bJ (aJ iQ (pv 1) (az a9 (by rfl) hlen PySem.boot_len (b8 (pv 0) ae)) (aI _))
    (av (aS (i:=2) kH.nd rfl (Or.inl rfl) (aQ bA (pv 0) (pv 1) (fun _ _=>rfl)))) aO)
   (ao (aS (i:=3) kH.nd rfl (Or.inl rfl) ai)
   (ao (bJ (aJ A4 (pv 2) (aL iF ai ai) (aI _)) (av (aS (i:=3) kH.nd rfl (Or.inl rfl) (pv 2))) aO)
   (av (aD (bM (b8 (pv 3) (b8
    (aL dk (aL dQ (aL eJ (aL eJ (aL dk (pv 2) ai) (aL dQ (aL dQ ai (pv 1)) (pv 1))) ai) ai) ai) ae)))))))),?_⟩
  refine ⟨_,rfl,_,rfl,a,_,rfl,.inl hS,_,_,rfl,rfl,_,rfl,?_⟩
  refine bQ (fun h=>?_) (fun h=>?_)
  ·have hlt:k.toNat < ns.length:=by
    have h1:=of_decide_eq_true h
    rw [List.length_map] at h1
    omega
   obtain ⟨c,hc⟩:∃ c,qa (ns.map V.int) k=some (V.int c):=by
    refine ⟨ns[k.toNat],?_⟩
    have e:((k.toNat:Nat):Int)=k:=by omega
    have z:=ji (xs:=ns.map V.int) (j:=k.toNat) (v:=V.int ns[k.toNat]) (by rw [List.getElem?_map]; simp [hlt])
    rw [e] at z
    exact z
   refine ⟨_,rfl,_,rfl,a,_,k,_,rfl,rfl,hS,hc,?_⟩
   refine ⟨_,rfl,_,_,rfl,rfl,⟨by decide,by decide,by decide⟩,_,_,rfl,rfl,_,rfl,?_⟩
   refine bQ (fun h2=>?_) (fun h2=>?_)
   ·exact ⟨_,rfl,gX hk0 hk1 q⟩
   ·exact gX hk0 hk1 q
  ·refine ⟨_,rfl,_,_,rfl,rfl,⟨by decide,by decide,by decide⟩,_,_,rfl,rfl,_,rfl,?_⟩
   refine bQ (fun h2=>?_) (fun h2=>?_)
   ·exact ⟨_,rfl,gX hk0 hk1 q⟩
   ·exact gX hk0 hk1 q
theorem mB:FnScope ["_law_room_here","_law_many","_law_found"] ["_law_room_here","_law_many"] (ar AF):=eO (by decide +kernel)
theorem Al {f:Addr}{fd:FuncData}(F:Fun K "_law_take" "_law_take" AF f fd):FnOk P w K mg base (bz P w) 1 f fd ["_law_room_here","_law_many"] spTake:=by
 refine F.okN mB (fun vs H Q E h=>?_) (fun cdv A outer s H vs Q E hr h=>?_)
 ·obtain ⟨p,l,r,m,rfl,_⟩:=h
  rfl
 ·obtain ⟨p,l,r,m,rfl,hp,hr0,hr1,hm0,hm1,q⟩:=h
  refine ⟨_,ao (bJ (aJ lX (aQ bA (pv 0) ai (fun _ _=>rfl)) ai (aI _))
   (ao (aS (i:=2) mB.nd rfl (Or.inl rfl) (aL dk (aQ bA (pv 0) ai (fun _ _=>rfl)) (pv 1)))
   (ao (ij (aL eY (aQ bA (pv 0) ai (fun _ _=>rfl)) (pv 1)) (m8 (pv 0) ai gU))
   (av (aD (pv 2))))) aO)
   (ao (ij (aL dk (aL eJ (aL dQ (aQ bA (pv 0) ai (fun _ _=>rfl)) ai) ai) ai) (m8 (pv 0) ai gU))
   (ao (aS (i:=2) mB.nd rfl (Or.inl rfl) (aL zF (aL dk (aL dQ (aQ bA (pv 0) ai (fun _ _=>rfl)) (aQ bA (pv 0) ai (fun _ _=>rfl))) ai) ai))
   (ao (bJ (aJ lX (pv 1) (aL iF ai ai) (aI _))
    (ao (ij (aL dk (aL eJ (aL dQ (aQ bA (pv 0) ai (fun _ _=>rfl)) ai) ai) ai) (m8 (pv 0) ai gU))
    (av (aS (i:=2) mB.nd rfl (Or.inl rfl) (aL eJ (aL dQ (pv 2) ai) (aL dk (aL dQ (aQ bA (pv 0) ai (fun _ _=>rfl)) (aQ bA (pv 0) ai (fun _ _=>rfl))) ai))))) aO)
   (av (aD (aL dk (pv 2) (pv 1))))))),?_⟩
  have i0:∀ x y:V,qa [x,y] 0=some x:=fun _ _=>rfl
  have i1:∀ x y:V,qa [x,y] 1=some y:=fun _ _=>rfl
  have n0:vL [V.int l,V.int r].length 0=some 0:=rfl
  have n1:∀ x y:V,vL [x,y].length 1=some 1:=fun _ _=>rfl
  refine ⟨_,rfl,p,_,0,_,rfl,rfl,br.of hp,i0 _ _,_,_,rfl,rfl,_,rfl,?_⟩
  refine bQ (fun h=>?_) (fun h=>?_)
  ·refine ⟨_,rfl,p,_,0,_,rfl,rfl,br.of hp,i0 _ _,_,rfl,_,_,rfl,rfl,hm0,?_⟩
   refine ⟨_,rfl,p,_,0,_,rfl,rfl,br.of hp,i0 _ _,_,rfl,_,_,rfl,rfl,⟨by omega,(show B 64 m from (by show m.natAbs < 2 ^ 64; omega)).mono (by decide)⟩,_,rfl,p,_,0,0,rfl,rfl,hp,n0,?_⟩
   exact ⟨_,rfl,q _ _ _ (Int.emod_nonneg _ (by omega)) (Int.emod_lt_of_pos _ hm0) hr0 hr1⟩
  ·have e1:∀ t:Int,0≤t % 2147483647∧t % 2147483647 < 2147483647:=fun t=>⟨Int.emod_nonneg _ (by decide),Int.emod_lt_of_pos _ (by decide)⟩
   refine ⟨_,rfl,p,_,1,_,rfl,rfl,br.of hp,i1 _ _,_,_,rfl,rfl,.inl ⟨by omega,by omega⟩,_,_,rfl,rfl,_,_,rfl,rfl,(by show (0:Int) < 2147483647; decide),_,rfl,p,_,1,1,rfl,rfl,hp,n1 _ _,?_⟩
   refine ⟨_,rfl,p,_,1,_,rfl,rfl,br.of ag,i1 _ _,_,rfl,p,_,1,_,rfl,rfl,br.of ag,i1 _ _,_,_,rfl,rfl,.inl ⟨by omega,by omega⟩,_,_,rfl,rfl,(by show (0:Int) < 2147483629; decide),_,_,rfl,rfl,⟨by decide,by decide⟩,?_⟩
   refine ⟨_,rfl,_,_,rfl,rfl,⟨by decide,by decide,by decide⟩,_,_,rfl,rfl,_,rfl,?_⟩
   refine bQ (fun h2=>?_) (fun h2=>?_)
   ·refine ⟨_,rfl,p,_,1,_,rfl,rfl,br.of ag,i1 _ _,_,_,rfl,rfl,.inl ⟨by omega,by omega⟩,_,_,rfl,rfl,_,_,rfl,rfl,(by show (0:Int) < 2147483647; decide),_,rfl,p,_,1,1,rfl,rfl,ag,n1 _ _,?_⟩
    rw [zr]
    refine ⟨_,rfl,_,_,rfl,rfl,.inr ⟨by decide,by decide⟩,_,rfl,p,_,1,_,rfl,rfl,br.of ag,i1 _ _,_,rfl,p,_,1,_,rfl,rfl,br.of ag,i1 _ _,_,_,rfl,rfl,.inl ⟨by omega,by omega⟩,_,_,rfl,rfl,(by show (0:Int) < 2147483587; decide),_,_,rfl,rfl,?_⟩
    exact ⟨_,rfl,_,rfl,_,_,rfl,rfl,hm0,q _ _ _ (Int.emod_nonneg _ (by omega)) (Int.emod_lt_of_pos _ hm0) (e1 _).1 (e1 _).2⟩
   ·exact ⟨_,rfl,_,rfl,_,_,rfl,rfl,hm0,q _ _ _ (Int.emod_nonneg _ (by omega)) (Int.emod_lt_of_pos _ hm0) (e1 _).1 (e1 _).2⟩
def Cy (H:Hp)(Q:VK)(t b:Int):Prop:=∀ (H':Hp)(a:Addr),aA H H'->H' a=some (cj t b)->Q (.ref a) H'
theorem Cy.of {H H':Hp}{Q:VK}{t b:Int}(q:Cy H Q t b)(S:aA H H'):∀ a,H' a=none->Q (.ref a) (upd H' a (cj t b)):=fun a ha=>q _ a (S.trans (ak ha)) ag
def spLLow:Sp:=fun vs H Q _=>∃ t b:Int,vs=[.int t,.int b]∧b≠0∧B 9000 b∧B 9000 t∧Cy H Q (cR t b) (cg t b)
def spMake:Sp:=fun vs H Q _=>∃ p t b:Int,vs=[.int p,.int t,.int b]∧FP p∧b≠0∧B 9000 b∧B 9000 t∧(p≠0->b=1)∧Cy H Q (gz p t b) (gq p t b)
def xf (g:Int->Int->Int->Int->Int):Sp:=fun vs H Q _=>∃ (p t1 b1 t2 b2:Int)(a1 a2:Addr),vs=[.int p,.ref a1,.ref a2]∧FP p∧H a1=some (cj t1 b1)∧H a2=some (cj t2 b2)∧B 4000 t1∧B 4000 b1∧B 4000 t2∧B 4000 b2∧b1≠0∧b2≠0∧(p≠0->b1 * b2=1) ∧
 Cy H Q (gz p (g t1 b1 t2 b2) (b1 * b2)) (gq p (g t1 b1 t2 b2) (b1 * b2))
abbrev Es:List Str:=["_law_top","_law_bottom","_law_one","_law_other","_law_sign"]
theorem jK:FnScope Es ["_law_top","_law_bottom"] (ar AU):=eO (by decide +kernel)
theorem AK (c:Int):(if c < 0 then -c else c)=ab c:=rfl
theorem zW {f:Addr}{fd:FuncData}(F:Fun K "_law_lowest" "_law_lowest" AU f fd)(mA:mg "abs"=none)(mI:mg "int"=none):FnOk P w K mg base (bz P w) 1 f fd ["_law_top","_law_bottom"] spLLow:=by
 refine F.okN jK (fun vs H Q E h=>?_) (fun cdv A outer s H vs Q E hr h=>?_)
 ·obtain ⟨a,b,rfl,_⟩:=h
  rfl
 ·obtain ⟨t,b,rfl,hb,hB,hT,q⟩:=h
  refine ⟨_,ao (aS (i:=2) jK.nd rfl (Or.inl rfl) (az hU (by rfl) mA (by rfl) (aj (pv 0) ae)))
   (ao (aS (i:=3) jK.nd rfl (Or.inl rfl) (az hU (by rfl) mA (by rfl) (aj (pv 1) ae)))
   (ao (p4 PassesOwn.never (aJ dI (pv 3) ai (aI _)) (av (yp (i:=2) (j:=3) rfl jK.nd rfl rfl (by decide) rfl rfl (aj (pv 3) (aj (aL tO (pv 2) (pv 3)) ae)) rfl)))
   (ao (aS (i:=4) jK.nd rfl (Or.inl rfl) (aQ bA (bM (aj ai (aj (tK nt ai) ae))) (cE uO (by rfl) mI (by rfl) (aj (cw iQ (pv 1) ai (aI _)) ae)) (fun _ _=>rfl)))
   (av (aD (aC (aj (aL eY (aL dQ (pv 4) (pv 0)) (pv 2)) (aj (aL eY (az hU (by rfl) mA (by rfl) (aj (pv 1) ae)) (pv 2)) ae)))))))),?_⟩
  refine ⟨_,rfl,t,rfl,_,rfl,b,rfl,?_⟩
  rw [AK,AK]
  refine ⟨fun m σ H'=>∃ c d:Int,σ=[some (.int t),some (.int b),some (.int c),some (.int d),none]∧H'=H∧m=d.natAbs∧Int.gcd c d=Int.gcd t b∧0≤c∧0≤d,⟨_,ab t,ab b,rfl,rfl,rfl,BZ t b,by rw [jH]; omega,by rw [jH]; omega⟩,?_⟩
  rintro m σ H' ⟨c,d,rfl,rfl,rfl,hg,hc0,hd0⟩
  refine ⟨_,rfl,rfl,_,rfl,?_⟩
  refine bQ (fun h=>?_) (fun h=>?_)
  ·have hd:d≠0:=by simpa using h
   refine ⟨fun σ' H''=>∃ c' d':Int,σ'=[some (.int t),some (.int b),some (.int c'),some (.int d'),none]∧H''=H'∧d'.natAbs < d.natAbs∧Int.gcd c' d'=Int.gcd t b∧0≤c'∧0≤d',fun σ' H'' ⟨c',d',e1,e2,e3,e4,e5,e6⟩=>⟨_,e3,c',d',e1,e2,rfl,e4,e5,e6⟩,?_⟩
   refine ⟨_,rfl,_,rfl,_,rfl,_,_,rfl,rfl,hd,_,_,rfl,d,c.fmod d,rfl,rfl,sS c d hd,by rw [pW,hg],hd0,Int.fmod_nonneg_of_pos c (by omega)⟩
  ·have hd:d=0:=by simpa using h
   subst hd
   have eg:c=cG t b:=by
    unfold cG
    rw [← hg]
    simp
    omega
   have gp:=d0 (t:=t) hb
   have hgB:B 9000 (cG t b):=hB.le (Bp hb)
   subst eg
   refine ⟨_,rfl,kQ,fun z hz=>?_⟩
   have S:=ak (o:=.lst [V.int 1,V.int (-1)]) hz
   refine ⟨_,rfl,_,_,rfl,rfl,.inr ⟨_,rfl,?_⟩⟩
   have hat:qa [V.int 1,V.int (-1)] (if decide (b < 0)=true then 1 else 0)=some (.int (sg b)):=by
    unfold sg
    by_cases hb0:b < 0
    ·simp [hb0]; rfl
    ·simp [hb0]; rfl
   refine ⟨z,_,_,_,rfl,rfl,br.of ag,hat,?_⟩
   have sg1:-1≤sg b∧sg b≤1:=by unfold sg; split <;> decide
   refine ⟨_,rfl,_,rfl,_,_,rfl,rfl,.inl ⟨by omega,by omega⟩,_,rfl,_,_,rfl,rfl,⟨by omega,hgB⟩,_,rfl,b,rfl,_,rfl,_,_,rfl,rfl,⟨by omega,hgB⟩,kQ,fun a ha=>?_⟩
   have y:=q.of S a ha
   rw [← CL (t:=t) hb,← C0 (t:=t) hb] at y
   exact y
theorem BW:FnScope ["_law_prime_here","_law_top","_law_bottom"] ["_law_prime_here","_law_top","_law_bottom"] (ar AB):=eO (by decide +kernel)
theorem yP {f fl:Addr}{fd fdl:FuncData}(F:Fun K "_law_make" "_law_make" AB f fd)(FL:FnOk P w K mg base (bz P w) 1 fl fdl ["_law_top","_law_bottom"] spLLow)(bL:L2.aH K fdl ["_law_top","_law_bottom"] [])(mL:mg "_law_lowest"=some (.ref fl))(kL:keepIn K (.ref fl)=true):
 FnOk P w K mg base (bz P w) 2 f fd ["_law_prime_here","_law_top","_law_bottom"] spMake:=by
 refine F.okN BW (fun vs H Q E h=>?_) (fun cdv A outer s H vs Q E hr h=>?_)
 ·obtain ⟨p,t,b,rfl,_⟩:=h
  rfl
 ·obtain ⟨p,t,b,rfl,hp,hb,hB,hT,h1,q⟩:=h
  refine ⟨_,ao (bJ (aJ dZ (pv 0) ai (aI _)) (av (aD (aB FL hr (by rfl) mL kL bL .nil ah (aj (pv 1) (aj (pv 2) ae))))) aO)
   (ao (bJ (aJ dI (aL dk (pv 2) (pv 0)) ai (aI _)) vF aO)
   (av (aD (aC (aj (aL dk (pv 1) (pv 0)) (aj ai ae)))))),?_⟩
  refine ⟨_,rfl,rfl,_,rfl,?_⟩
  refine bQ (fun h=>?_) (fun h=>?_)
  ·have hp0:p=0:=by simpa using h
   unfold gz gq at q
   rw [if_pos hp0,if_pos hp0] at q
   exact ⟨_,rfl,_,rfl,t,b,rfl,hb,hB,hT,q⟩
  ·have hp0:p≠0:=by simpa using h
   obtain ⟨hpp,p2,p97⟩:=hp.two hp0
   have hb1:=h1 hp0
   subst hb1
   refine ⟨_,rfl,_,rfl,_,_,rfl,rfl,(by show (0:Int) < p; omega),rfl,_,rfl,?_⟩
   have e1:(1:Int) % p=1:=Int.emod_eq_of_lt (by decide) (by omega)
   refine bQ (fun h=>absurd h (by simp [e1])) (fun _=>?_)
   unfold gz gq at q
   rw [if_neg hp0,if_neg hp0] at q
   exact ⟨_,rfl,_,rfl,_,_,rfl,rfl,(by show (0:Int) < p; omega),kQ,q.of (aA.refl _)⟩
theorem Ao:FnScope ["_law_prime_here","_law_one","_law_other"] ["_law_prime_here","_law_one","_law_other"] (ar xw):=eO (by decide +kernel)
theorem vX {f fl:Addr}{fd fdl:FuncData}(F:Fun K "_law_plus" "_law_plus" xw f fd)(FL:FnOk P w K mg base (bz P w) 2 fl fdl ["_law_prime_here","_law_top","_law_bottom"] spMake)(bL:L2.aH K fdl ["_law_prime_here","_law_top","_law_bottom"] [])(mL:mg "_law_make"=some (.ref fl))(kL:keepIn K (.ref fl)=true):
 FnOk P w K mg base (bz P w) 3 f fd ["_law_prime_here","_law_one","_law_other"] (xf jv):=by
 refine F.okN Ao (fun vs H Q E h=>?_) (fun cdv A outer s H vs Q E hr h=>?_)
 ·obtain ⟨p,t1,b1,t2,b2,x1,x2,rfl,_⟩:=h
  rfl
 ·obtain ⟨p,t1,b1,t2,b2,x1,x2,rfl,hp,h1,h2,B1,B2,B3,B4,n1,n2,hb,q⟩:=h
  refine ⟨_,av (aD (aB FL hr (by rfl) mL kL bL .nil ah (aj (pv 0) (aj (aL eJ (aL fF (aQ aY (pv 1) ai (fun _ _=>rfl)) (aQ aY (pv 2) ai (fun _ _=>rfl))) (aL fF (aQ aY (pv 2) ai (fun _ _=>rfl)) (aQ aY (pv 1) ai (fun _ _=>rfl)))) (aj (aL fF (aQ aY (pv 1) ai (fun _ _=>rfl)) (aQ aY (pv 2) ai (fun _ _=>rfl))) ae))))),?_⟩
  refine ⟨_,rfl,?_⟩
  refine ⟨_,rfl,x1,_,0,_,rfl,rfl,bf.of h1,a0 _ _,_,rfl,x2,_,1,_,rfl,rfl,bf.of h2,a1 _ _,_,_,rfl,rfl,⟨B1.mono (by decide),B4.mono (by decide)⟩,?_⟩
  refine ⟨_,rfl,x2,_,0,_,rfl,rfl,bf.of h2,a0 _ _,_,rfl,x1,_,1,_,rfl,rfl,bf.of h1,a1 _ _,_,_,rfl,rfl,⟨B3.mono (by decide),B2.mono (by decide)⟩,_,_,rfl,rfl,?_⟩
  refine ⟨_,rfl,x1,_,1,_,rfl,rfl,bf.of h1,a1 _ _,_,rfl,x2,_,1,_,rfl,rfl,bf.of h2,a1 _ _,_,_,rfl,rfl,⟨B2.mono (by decide),B4.mono (by decide)⟩,?_⟩
  exact ⟨p,_,_,rfl,hp,v8 n1 n2,(B2.mul B4).mono (by decide),((B1.mul B4).add (B3.mul B2)).mono (by decide),hb,q⟩
abbrev wN:Stmt:=(bt 42)
abbrev tR:Stmt:=(bt 43)
def aU (H:Hp)(r:Addr):Prop:=∃ l x:Int,H r=some (.lst [.int l,.int x])∧0≤x∧x < 2147483647
def SameBut (r:Addr)(H H':Hp):Prop:=∀ b o,H b=some o->b≠r->H' b=some o
theorem SameBut.trans {r:Addr}{H H1 H2:Hp}(a:SameBut r H H1)(b:SameBut r H1 H2):SameBut r H H2:=fun c o e n=>b c o (a c o e n) n
theorem SameBut.of {r:Addr}{H H1:Hp}(a:aA H H1):SameBut r H H1:=fun c o e _=>a c o e
theorem SameBut.upd {r:Addr}{H:Hp}{o:HO}:SameBut r H (upd H r o):=fun b u e n=>by rw [aq n]; exact e
def spPrimeL:Sp:=fun vs H Q _=>∃ r:Addr,vs=[.ref r]∧aU H r∧∀ (p:Int)(H':Hp),FP p->aU H' r->SameBut r H H'->Q (.int p) H'
def spNumber:Sp:=fun vs H Q _=>∃ (r:Addr)(p:Int),vs=[.ref r,.int p]∧FP p∧aU H r∧∀ (a:Addr)(t b:Int)(H':Hp),Num p t b->B 45 t->B 45 b->H' a=some (cj t b)->aU H' r->SameBut r H H'->Q (.ref a) H'
theorem Bk {K:Frag}{H:Hp}{a:Addr}{t b:Int}(h:H a=some (cj t b)):aN K H (.tup [.int t,.int b]) (.ref a):=by
 unfold aN
 refine ⟨a,_,rfl,bf.of h,?_⟩
 unfold bF
 refine ⟨_,_,rfl,by unfold aN; rfl,?_⟩
 unfold bF
 refine ⟨_,_,rfl,by unfold aN; rfl,?_⟩
 unfold bF
 rfl
theorem CK (t b:Int):i4 (.tup [.int t,.int b])=1:=by simp [i4,dC]
theorem Er (t b u d:Int):df (.tup [.int t,.int b]) (.tup [.int u,.int d])=(t == u&&b == d):=by simp [df,cz]
theorem je {xs:List Int}{w:Int}(h0:0≤w)(h1:w < xs.length):∃ x∈xs,qa (xs.map V.int) w=some (.int x):=by
 have hl:w.toNat < xs.length:=by omega
 refine ⟨xs[w.toNat],List.getElem_mem hl,?_⟩
 have z:=ji (xs:=xs.map V.int) (j:=w.toNat) (v:=V.int xs[w.toNat]) (by rw [List.getElem?_map]; simp [hl])
 have e:((w.toNat:Nat):Int)=w:=by omega
 rw [e] at z
 exact z
theorem kf:FnScope ["_law_room_here","_law_at","_law_some"] ["_law_room_here"] (ar wN):=eO (by decide +kernel)
set_option maxHeartbeats 1000000 in
theorem vy {f ft:Addr}{fd fdt:FuncData}(F:Fun K "_law_prime" "_law_prime" wN f fd)(FT:FnOk P w K mg base (bz P w) 1 ft fdt ["_law_room_here","_law_many"] spTake)(bT:L2.aH K fdt ["_law_room_here","_law_many"] [])(mT:mg "_law_take"=some (.ref ft))(kT:keepIn K (.ref ft)=true):
 FnOk P w K mg base (bz P w) 2 f fd ["_law_room_here"] spPrimeL:=by
 refine F.okN kf (fun vs H Q E h=>?_) (fun cdv A outer s H vs Q E hr h=>?_)
 ·obtain ⟨r,rfl,_⟩:=h
  rfl
 ·obtain ⟨r,rfl,⟨l,x,hR,x0,x1⟩,q⟩:=h
  refine ⟨_,ao (aS (i:=1) kf.nd rfl (Or.inl rfl) (aB FT hr (by rfl) mT kT bT .nil ah (aj (pv 0) (aj ai ae))))
   (ao (bJ (aJ dZ (pv 1) ai (aI _))
    (@ao _ _ _ _ _ (@aS _ _ 2 _ _ _ _ kf.nd rfl (Or.inl rfl) (@nZ _ _ _ [11,13,17,19,23,29,31,37,41,43,47,53,59,61,67,71,73,79,83,89] rfl (by decide)) rfl (Or.inl rfl))
    (av (aD (aQ bA (pv 2) (aB FT hr (by rfl) mT kT bT .nil ah (aj (pv 0) (aj ai ae))) (fun _ _=>rfl))))) aO)
   (@av _ _ _ (@aD _ _ _ _ (@aQ _ _ _ _ _ _ _ bA (@nZ _ _ _ [0,0,2,3,5,7,97,0] rfl (by decide)) (pv 1) (fun _ _=>rfl))))),?_⟩
  refine ⟨_,rfl,r,l,x,9,rfl,hR,x0,x1,by decide,by decide,fun z l2 r2 z0 z1 g0 g1=>?_⟩
  refine ⟨_,rfl,rfl,_,rfl,?_⟩
  have hR2:(upd H r (.lst [.int l2,.int r2])) r=some (.lst [.int l2,.int r2]):=ag
  have S2:SameBut r H (upd H r (.lst [.int l2,.int r2])):=SameBut.upd
  generalize (upd H r (.lst [.int l2,.int r2]))=H2 at hR2 S2 ⊢
  refine bQ (fun h=>?_) (fun h=>?_)
  ·refine fun m hm=>?_
   have S3:=ak (o:=.lst ([11,13,17,19,23,29,31,37,41,43,47,53,59,61,67,71,73,79,83,89].map V.int)) hm
   have em:(upd H2 m (.lst ([11,13,17,19,23,29,31,37,41,43,47,53,59,61,67,71,73,79,83,89].map V.int))) m=some (.lst ([11,13,17,19,23,29,31,37,41,43,47,53,59,61,67,71,73,79,83,89].map V.int)):=ag
   have hR3:=S3 _ _ hR2
   refine ⟨_,rfl,_,rfl,r,l2,r2,20,rfl,hR3,g0,g1,by decide,by decide,fun z' l3 r3 z0' z1' g0' g1'=>?_⟩
   obtain ⟨y,hy,hat⟩:=je (xs:=[11,13,17,19,23,29,31,37,41,43,47,53,59,61,67,71,73,79,83,89]) z0' z1'
   have nm:m≠r:=oV em hR3 (by intro z; cases z)
   refine ⟨m,_,z',_,rfl,rfl,br.of (by rw [aq nm]; exact em),hat,?_⟩
   have all:∀ y∈([11,13,17,19,23,29,31,37,41,43,47,53,59,61,67,71,73,79,83,89]:List Int),y∈primes:=by decide
   exact q y _ (.inr (all y hy)) ⟨l3,r3,ag,g0',g1'⟩ ((S2.trans (SameBut.of S3)).trans SameBut.upd)
  ·have hz:z < 8:=by
    have:z≠8:=by simpa using h
    omega
   refine fun m hm=>?_
   have S3:=ak (o:=.lst ([0,0,2,3,5,7,97,0].map V.int)) hm
   have em:(upd H2 m (.lst ([0,0,2,3,5,7,97,0].map V.int))) m=some (.lst ([0,0,2,3,5,7,97,0].map V.int)):=ag
   obtain ⟨y,hy,hat⟩:=je (xs:=[0,0,2,3,5,7,97,0]) z0 hz
   refine ⟨_,rfl,m,_,z,_,rfl,rfl,br.of em,hat,?_⟩
   have all:∀ y∈([0,0,2,3,5,7,97,0]:List Int),y=0∨y∈primes:=by decide
   exact q y _ (all y hy) ⟨l2,r2,S3 _ _ hR2,g0,g1⟩ (S2.trans (SameBut.of S3))
theorem yo:FnScope ["_law_room_here","_law_prime_here"] ["_law_room_here","_law_prime_here"] (ar tR):=eO (by decide +kernel)
theorem rJ {H H2:Hp}{Q:VK}{r:Addr}{t b:Int}(q:∀ (a:Addr)(t b:Int)(H':Hp),Num 0 t b->B 45 t->B 45 b->H' a=some (cj t b)->aU H' r->SameBut r H H'->Q (.ref a) H')(hb:0 < b)(hB:B 45 b)(hT:B 45 t)(hR:aU H2 r)(S:SameBut r H H2):spLLow [.int t,.int b] H2 Q fun _ _ _=>False:=by
 have hb0:b≠0:=by omega
 refine ⟨t,b,rfl,hb0,hB.mono (by decide),hT.mono (by decide),fun H' a S' e=>?_⟩
 refine q a _ _ H' (Num.low hb0) (hT.le (rL hb0)) (hB.le (sV hb0)) e ?_ (S.trans (SameBut.of S'))
 obtain ⟨l,x,h,z⟩:=hR
 exact ⟨l,x,S' _ _ h,z⟩
set_option maxHeartbeats 1000000 in
theorem uR {f ft fl:Addr}{fd fdt fdl:FuncData}(F:Fun K "_law_number" "_law_number" tR f fd)(FT:FnOk P w K mg base (bz P w) 1 ft fdt ["_law_room_here","_law_many"] spTake)(bT:L2.aH K fdt ["_law_room_here","_law_many"] [])(mT:mg "_law_take"=some (.ref ft))(kT:keepIn K (.ref ft)=true)
 (FL:FnOk P w K mg base (bz P w) 1 fl fdl ["_law_top","_law_bottom"] spLLow)(bL:L2.aH K fdl ["_law_top","_law_bottom"] [])(mL:mg "_law_lowest"=some (.ref fl))(kL:keepIn K (.ref fl)=true):
 FnOk P w K mg base (bz P w) 2 f fd ["_law_room_here","_law_prime_here"] spNumber:=by
 refine F.okN yo (fun vs H Q E h=>?_) (fun cdv A outer s H vs Q E hr h=>?_)
 ·obtain ⟨r,p,rfl,_⟩:=h
  rfl
 ·obtain ⟨r,p,rfl,hp,⟨l,x,hR,x0,x1⟩,q⟩:=h
  refine ⟨_,ao (bJ (aJ lX (pv 1) ai (aI _)) (av (aD (aC (aj (aB FT hr (by rfl) mT kT bT .nil ah (aj (pv 0) (aj (pv 1) ae))) (aj ai ae))))) aO)
   (ao (bJ (aJ dZ (aB FT hr (by rfl) mT kT bT .nil ah (aj (pv 0) (aj ai ae))) ai (aI _))
    (av (aD (aB FL hr (by rfl) mL kL bL .nil ah
     (aj (aL rB (aB FT hr (by rfl) mT kT bT .nil ah (aj (pv 0) (@aj _ _ _ _ _ (@aL _ _ _ _ _ _ _ _ dQ ai (@aL _ _ _ _ _ _ _ _ iF ai ai)) ae rfl))) (@aL _ _ _ _ _ _ _ _ iF ai ai))
     (@aj _ _ _ _ _ (@aQ _ _ _ _ _ _ _ bA (@bM _ _ _ _ (@aj _ _ _ _ _ ai (@aj _ _ _ _ _ ai (@aj _ _ _ _ _ (@aL _ _ _ _ _ _ _ _ iF ai ai) (@aj _ _ _ _ _ (@aL _ _ _ _ _ _ _ _ eJ (@aL _ _ _ _ _ _ _ _ iF ai ai) ai) ae rfl) rfl) rfl) rfl))
       (aB FT hr (by rfl) mT kT bT .nil ah (aj (pv 0) (aj ai ae))) (fun _ _=>rfl)) ae rfl))))) aO)
   (av (aD (aB FL hr (by rfl) mL kL bL .nil ah
    (aj (aL rB (aB FT hr (by rfl) mT kT bT .nil ah (aj (pv 0) (aj ai ae))) ai)
    (@aj _ _ _ _ _ (@aQ _ _ _ _ _ _ _ bA (@nZ _ _ _ [1,1,2,3] rfl (by decide)) (aB FT hr (by rfl) mT kT bT .nil ah (aj (pv 0) (aj ai ae))) (fun _ _=>rfl)) ae rfl)))))),?_⟩
  refine ⟨_,rfl,_,_,rfl,rfl,_,rfl,?_⟩
  refine bQ (fun h=>?_) (fun h=>?_)
  ·have hp0:0 < p:=by simpa using h
   obtain ⟨_,p2,p97⟩:=hp.two (by omega)
   refine ⟨_,rfl,_,rfl,r,l,x,p,rfl,hR,x0,x1,hp0,by omega,fun z l2 r2 z0 z1 g0 g1=>?_⟩
   refine ⟨kQ,fun a ha=>?_⟩
   have S:=ak (o:=cj z 1) ha
   refine q a z 1 _ (Num.ofP z0 z1) ?_ (by show (1:Int).natAbs < 2 ^ 45; decide) ag ⟨l2,r2,S _ _ ag,g0,g1⟩ (SameBut.upd.trans (SameBut.of S))
   show z.natAbs < 2 ^ 45
   omega
  ·have hp0:p=0:=by
    have:=hp.nn
    have h':¬ 0 < p:=by simpa using h
    omega
   subst hp0
   refine ⟨_,rfl,r,l,x,8,rfl,hR,x0,x1,by decide,by decide,fun z l2 r2 z0 z1 g0 g1=>⟨rfl,_,rfl,?_⟩⟩
   have hR2:(upd H r (.lst [.int l2,.int r2])) r=some (.lst [.int l2,.int r2]):=ag
   have S2:SameBut r H (upd H r (.lst [.int l2,.int r2])):=SameBut.upd
   generalize (upd H r (.lst [.int l2,.int r2]))=H2 at hR2 S2 ⊢
   refine bQ (fun h=>?_) (fun h=>?_)
   ·refine ⟨_,rfl,_,_,rfl,rfl,⟨by decide,by decide,by decide⟩,_,_,rfl,rfl,.inl ⟨by decide,by decide⟩,r,l2,r2,_,rfl,hR2,g0,g1,by decide,by decide,fun y l3 r3 y0 y1 k0 k1=>?_⟩
    refine ⟨_,_,rfl,rfl,⟨by decide,by decide,by decide⟩,_,_,rfl,rfl,?_⟩
    refine ⟨_,_,rfl,rfl,⟨by decide,by decide,by decide⟩,_,_,rfl,rfl,⟨by decide,by decide,by decide⟩,_,_,rfl,rfl,ES,fun m hm=>?_⟩
    have S3:SameBut r H2 (upd H2 r (.lst [.int l3,.int r3])):=SameBut.upd
    have hR3:(upd H2 r (.lst [.int l3,.int r3])) r=some (.lst [.int l3,.int r3]):=ag
    generalize (upd H2 r (.lst [.int l3,.int r3]))=H3 at hm S3 hR3 ⊢
    have S4:=ak (o:=.lst ([1,7,10 ^ (6:Int).toNat,10 ^ (12:Int).toNat + 39].map V.int)) hm
    have em:(upd H3 m (.lst ([1,7,10 ^ (6:Int).toNat,10 ^ (12:Int).toNat + 39].map V.int))) m=some (.lst ([1,7,10 ^ (6:Int).toNat,10 ^ (12:Int).toNat + 39].map V.int)):=ag
    have hR4:=S4 _ _ hR3
    refine ⟨_,rfl,r,l3,r3,4,rfl,hR4,k0,k1,by decide,by decide,fun v l4 r4 v0 v1 j0 j1=>?_⟩
    have nm:m≠r:=oV em hR4 (by intro z; cases z)
    obtain ⟨b,hb,hat⟩:=je (xs:=[1,7,10 ^ (6:Int).toNat,10 ^ (12:Int).toNat + 39]) v0 v1
    refine ⟨m,_,v,_,rfl,rfl,br.of (by rw [aq nm]; exact em),hat,?_⟩
    have bb:∀ b∈([1,7,10 ^ (6:Int).toNat,10 ^ (12:Int).toNat + 39]:List Int),0 < b∧b.natAbs < 2 ^ 45:=by decide
    obtain ⟨b0,bB⟩:=bb b hb
    refine rJ (H:=H) q b0 bB ?_ ⟨l4,r4,ag,j0,j1⟩ (((S2.trans S3).trans (SameBut.of S4)).trans SameBut.upd)
    have e1:(2:Int) * 10 ^ (12:Int).toNat=2000000000000:=by decide
    have e2:(10:Int) ^ (12:Int).toNat=1000000000000:=by decide
    rw [e1] at y1
    show (y - 10 ^ (12:Int).toNat).natAbs < 2 ^ 45
    rw [e2]
    omega
   ·refine ⟨_,rfl,r,l2,r2,19,rfl,hR2,g0,g1,by decide,by decide,fun y l3 r3 y0 y1 k0 k1=>?_⟩
    refine ⟨_,_,rfl,rfl,fun m hm=>?_⟩
    have S3:SameBut r H2 (upd H2 r (.lst [.int l3,.int r3])):=SameBut.upd
    have hR3:(upd H2 r (.lst [.int l3,.int r3])) r=some (.lst [.int l3,.int r3]):=ag
    generalize (upd H2 r (.lst [.int l3,.int r3]))=H3 at hm S3 hR3 ⊢
    have S4:=ak (o:=.lst ([1,1,2,3].map V.int)) hm
    have em:(upd H3 m (.lst ([1,1,2,3].map V.int))) m=some (.lst ([1,1,2,3].map V.int)):=ag
    have hR4:=S4 _ _ hR3
    refine ⟨_,rfl,r,l3,r3,4,rfl,hR4,k0,k1,by decide,by decide,fun v l4 r4 v0 v1 j0 j1=>?_⟩
    have nm:m≠r:=oV em hR4 (by intro z; cases z)
    obtain ⟨b,hb,hat⟩:=je (xs:=[1,1,2,3]) v0 v1
    refine ⟨m,_,v,_,rfl,rfl,br.of (by rw [aq nm]; exact em),hat,?_⟩
    have bb:∀ b∈([1,1,2,3]:List Int),0 < b∧b.natAbs < 2 ^ 45:=by decide
    obtain ⟨b0,bB⟩:=bb b hb
    refine rJ (H:=H) q b0 bB ?_ ⟨l4,r4,ag,j0,j1⟩ (((S2.trans S3).trans (SameBut.of S4)).trans SameBut.upd)
    show (y - 9).natAbs < 2 ^ 45
    omega
end K04
namespace L2
open PySem PySem.Spec PyProof.Rows PySem.W
end L2
namespace K04
open PySem L2 PySem.W Nm
abbrev mx:Stmt:=bD (bt 33) 11
theorem Th.same {H H':Hp}{x:V}{T:String}(h:Th H x T)(s:aA H H'):Th H' x T:=by
 cases h with
 | non=>exact .non
 | bl b=>exact .bl b
 | int i=>exact .int i
 | str x=>exact .str x
 | lst e=>exact .lst (s _ _ e)
 | tup e=>exact .tup (s _ _ e)
 | dK e=>exact .dK (s _ _ e)
inductive TX (H:Hp):V->Option (V × V)->Prop where
 | no {x:V}{T:String}:Th H x T->T ≠ "tuple"->TX H x none
 | odd {a:Addr}{xs:List V}:H a=some (.tup xs)->xs.length≠2->TX H (.ref a) none
 | two {a:Addr}{y z:V}{Ty Tz:String}:H a=some (.tup [y,z])->Th H y Ty->Th H z Tz->TX H (.ref a) (some (y,z))
theorem TX.same {H H':Hp}{x:V}{o:Option (V × V)}(h:TX H x o)(s:aA H H'):TX H' x o:=by
 cases h with
 | no th n=>exact .no (th.same s) n
 | odd e n=>exact .odd (s _ _ e) n
 | two e h1 h2=>exact .two (s _ _ e) (h1.same s) (h2.same s)
def gf (p:Int):Option (V × V)->Bool
 | some (.int t,.int b)=>if p=0 then decide (1≤b)&&decide (Int.gcd t b=1) else decide (b=1)&&(decide (0≤t)&&decide (t < p))
 | _=>false
theorem Th.isTup {K:Frag}{H:Hp}{x:V}{T:String}(h:Th H x T):kitOne K (.type T) (.type "tuple")=some (decide (T="tuple")):=by cases h <;> rfl
def ke (C:Addr):Sp:=fun vs H Q _=>∃ (s dx:Addr)(p:Int)(x:V)(o:Option (V × V)),vs=[.ref s,x]∧H s=some (.ins C dx (dD p))∧FP p∧TX H x o∧Q (.bl (gf p o)) H
variable {P:Program}{w:World}{K:PySem.W.Frag}{mg:Str->Option Value}{base:Heap}
theorem gA:FnScope ["self","thing","top","bottom"] ["self","thing"] (ar mx):=eO (by decide +kernel)
theorem pq {f C fg fw:Addr}{fd fdg fdw:FuncData}{tF:Tok}(F:Fun K "is_number" "Field.is_number" mx f fd)(c:FieldK K mg C)(mF:mg "FRACTIONS"=some (.int 0 tF))(n:Nones mg)(mT:mg "tuple"=none)(mN:mg "len"=none)
 (FG:FnOk P w K mg base (bz P w) 1 fg fdg ["one","other"] spGcd)(bG:L2.aH K fdg ["one","other"] [])(mG:mg "common_divisor"=some (.ref fg))(kG:keepIn K (.ref fg)=true)
 (FW:FnOk P w K mg base (bz P w) 1 fw fdw ["thing"] spWhole)(bW:L2.aH K fdw ["thing"] [])(mW:mg "is_whole"=some (.ref fw))(kW:keepIn K (.ref fw)=true):FnOk P w K mg base (bz P w) 2 f fd ["self","thing"] (ke C):=by
 refine F.okN gA (fun vs H Q E h=>?_) (fun cdv A outer s H vs Q E hr h=>?_)
 ·obtain ⟨s,dx,p,x,o,rfl,_⟩:=h
  rfl
 ·obtain ⟨s,dx,p,x,o,rfl,hs,hp,tx,q⟩:=h
  refine ⟨_,ao (bJ (PW.pt (cH (cc (cb (az bw (by rfl) n.isi (by rfl) (aj (pv 1) (aj (cA (by rfl) mT (by rfl) (show aE (.ty "tuple") (.type "tuple") from rfl)) ae)))))
   (de (aJ dI (az a9 (by rfl) mN PySem.boot_len (aj (pv 1) ae)) ai (aI _))))) (av (aD c7)) aO)
   (ao (ij (pv 1) (dX rfl (bo (aR (i:=2) gA.nd rfl (Or.inl rfl)) (bo (aR (i:=3) gA.nd rfl (Or.inl rfl)) c0))))
   (ao (bJ (PW.pt (cH (cc (cb (aB FW hr (by rfl) mW kW bW .nil ah (aj (pv 2) ae)))) (de (cc (cb (aB FW hr (by rfl) mW kW bW .nil ah (aj (pv 3) ae))))))) (av (aD c7)) aO)
   (ao (bJ (aJ dZ (dA (pv 0) rfl) (dh (by rfl) mF (show aE (.int 0) (.int 0 tF) from ⟨_,rfl⟩)) (aI _))
    (av (aD (cW (cw A4 (pv 3) ai (aI _)) (dO (cw dZ (aB FG hr (by rfl) mG kG bG .nil ah (aj (pv 2) (aj (pv 3) ae))) ai (aI _)))))) aO)
   (av (aD (cW (cw dZ (pv 3) ai (aI _)) (dO (jC tV iQ ai (pv 2) (dA (pv 0) rfl))))))))),?_⟩
  cases tx with
  | @no x T th ne =>
    refine ⟨_,rfl,x,.ty "tuple",_,_,_,rfl,rfl,th.ty,th.isTup,_,rfl,?_⟩
    rw [decide_eq_false ne]
    exact bV (bV q)
  | @odd a xs ha hl =>
    refine ⟨_,rfl,.ref a,.ty "tuple",_,_,_,rfl,rfl,.of (.tup ha),rfl,_,rfl,cf ?_⟩
    refine ⟨_,rfl,a,_,rfl,.inr (bf.of ha),rfl,_,rfl,?_⟩
    refine bQ (fun _=>q) (fun h=>absurd (by simp; omega) h)
  | @two a y z Ty Tz ha hy hz =>
    refine ⟨_,rfl,.ref a,.ty "tuple",_,_,_,rfl,rfl,.of (.tup ha),rfl,_,rfl,cf ?_⟩
    refine ⟨_,rfl,a,_,rfl,.inr (bf.of ha),rfl,_,rfl,?_⟩
    refine bQ (fun h=>absurd h (by simp)) (fun _=>?_)
    refine ⟨_,rfl,a,_,rfl,bf.of ha,rfl,_,_,rfl,_,_,rfl,rfl,?_⟩
    refine ⟨_,rfl,y,Ty,rfl,hy,_,rfl,?_⟩
    cases e1:cp y with
    | false =>
      have z1:gf p (some (y,z))=false:=by cases y <;> first | rfl | cases e1
      rw [z1] at q
      exact bV (bV q)
    | true =>
      refine cf ⟨_,rfl,z,Tz,rfl,hz,_,rfl,?_⟩
      cases e2:cp z with
      | false =>
        have z1:gf p (some (y,z))=false:=by cases y <;> cases z <;> first | rfl | cases e2
        rw [z1] at q
        exact bV q
      | true =>
        have z1:∃ t,y = .int t:=by cases y <;> first | exact ⟨_,rfl⟩ | cases e1
        have z2:∃ b,z = .int b:=by cases z <;> first | exact ⟨_,rfl⟩ | cases e2
        obtain ⟨t,rfl⟩:=z1
        obtain ⟨b,rfl⟩:=z2
        refine cf ?_
        refine ⟨_,rfl,s,C,dx,_,_,rfl,hs,c.cl,c.nP,rfl,rfl,_,rfl,?_⟩
        refine bQ (fun h=>?_) (fun h=>?_)
        ·have hp0:p=0:=by simpa using h
         have z1:gf p (some (.int t,.int b))=(decide (1≤b)&&decide (Int.gcd t b=1)):=by simp [gf,hp0]
         rw [z1] at q
         refine ⟨_,rfl,_,_,rfl,rfl,_,rfl,?_⟩
         refine bQ (fun h1=>?_) (fun h1=>?_)
         ·refine ⟨_,rfl,_,rfl,t,b,rfl,rfl,?_⟩
          have e3:decide (V.int (cG t b)=V.int 1)=decide (Int.gcd t b=1):=by
           unfold cG
           by_cases g:Int.gcd t b=1
           ·simp [g]
           ·have:¬ ((Int.gcd t b:Nat):Int)=1:=by omega
            simp [g,this]
          have h1':decide (1≤b)=true:=h1
          rw [h1',Bool.true_and,← e3] at q
          exact q
         ·have h1':decide (1≤b)=false:=by simpa using h1
          rw [h1',Bool.false_and] at q
          exact q
        ·have hp0:p≠0:=by simpa using h
         have z1:gf p (some (.int t,.int b))=(decide (b=1)&&(decide (0≤t)&&decide (t < p))):=by simp [gf,hp0]
         rw [z1] at q
         refine ⟨_,rfl,rfl,_,rfl,?_⟩
         refine bQ (fun h1=>?_) (fun h1=>?_)
         ·have h1':decide (b=1)=true:=by simpa using h1
          rw [h1',Bool.true_and] at q
          refine ⟨_,rfl,_,_,rfl,rfl,_,rfl,?_⟩
          refine bQ (fun h2=>?_) (fun h2=>?_)
          ·refine ⟨_,rfl,s,C,dx,_,_,rfl,hs,c.cl,c.nP,rfl,_,_,rfl,rfl,?_⟩
           have h2':decide (0≤t)=true:=h2
           rw [h2',Bool.true_and] at q
           exact q
          ·have h2':decide (0≤t)=false:=by simpa using h2
           rw [h2',Bool.false_and] at q
           exact q
         ·have h1':decide (b=1)=false:=by simpa using h1
          rw [h1',Bool.false_and] at q
          exact q
end K04
namespace L2
open PySem PySem.Spec PyProof.Rows PySem.W
def DK:V->Bool->Prop
 | .bl b,c=>c=b
 | .int i,c=>c=(i != 0)
 | _,_=>False
theorem b9 {α β:Type}{R:α->β->Prop}:∀ {l:List α}{m:List β}{i:Nat}{a:α},Paired R l m->l[i]?=some a->∃ b,m[i]?=some b∧R a b
 | [],_,i,a,h,e=>by simp at e
 | x :: l,_,i,a,h,e=>by
   cases h with
   | cons h1 h2 =>
     cases i with
     | zero=>simp at e; subst e; exact ⟨_,rfl,h1⟩
     | succ i=>simpa using b9 h2 (by simpa using e)
theorem j5 {α β:Type}{R:α->β->Prop}:∀ {l:List α}{m:List β}{i:Nat}{b:β},Paired R l m->m[i]?=some b->∃ a,l[i]?=some a∧R a b
 | [],m,i,b,h,e=>by cases h; simp at e
 | x :: l,_,i,b,h,e=>by
   cases h with
   | cons h1 h2 =>
     cases i with
     | zero=>simp at e; subst e; exact ⟨_,rfl,h1⟩
     | succ i=>simpa using j5 h2 (by simpa using e)
section
variable {X:Cx}
theorem Cc {A:Around}{Q:Bool->Shared->Prop}{E:Value->Shared->Prop}{s:Shared}{y:V}{c:Bool}{u:Value}(t:DK y c)(r:aE y u)(h:Q c s):wpAny (model X.prog X.w) A (truthy u) Q E s:=by
 cases y with
 | bl b =>
   cases (show u=Value.bool b from r)
   cases (show c=b from t)
   exact wpAny_truthy_bool h
 | int i =>
   obtain ⟨k,rfl⟩:=(show ∃ k,u=Value.int i k from r)
   cases (show c=(i != 0) from t)
   exact PyProof.Rows.truthy_int h
 | _=>exact t.elim
theorem pL (hc:X.calm=true):bU X (.builtin "all") (fun xs H Q=>∃ l ys bs,xs=[.ref l]∧br X.K H l ys∧Paired DK ys bs∧Q (.bl (bs.all id)) H):=by
 intro pins s σ H xs us Q I r h
 obtain ⟨l,ys,bs,rfl,hl,hp,q⟩:=h
 obtain ⟨u,rfl,ru⟩:=dH r
 cases (show u=Value.ref l from ru)
 obtain ⟨its,rv,pl,hz⟩:=I.list hl
 have hlt:l < s.heap.objs.size:=by obtain ⟨o,n,e,_⟩:=pl; exact Heap.lt_size e
 refine call_all_walk (wpAny_pyIter_list pl.isList ?_)
 refine ⟨s.heap.objs.size,[s.heap.objs.size,l],[s.heap.objs.size],its.toArray.size,_,_,fun i=>(bs[i]?).getD true,rfl,Walks.list (A:=X.A.in1) (I.ok.hd hc) _ l (Nat.ne_of_lt hlt) its.toArray,
  ⟨⟨_,Heap.get?_push_size _ rfl,rfl,rfl⟩,pl.isList.push _⟩,fun i v s' Q' E' hP hQ=>?_,fun h' tk hk=>?_⟩
 ·have e:its[i]?=some v:=by simpa using hP
  obtain ⟨y,ey,ry⟩:=j5 rv e
  obtain ⟨b,eb,tb⟩:=b9 hp ey
  simp only [eb,Option.getD_some] at hQ
  exact Cc tb ry hQ
 ·have n:its.toArray.size=bs.length:=by rw [List.size_toArray,← rv.length,hp.length]
  have e:((List.range its.toArray.size).all fun i=>(bs[i]?).getD true)=bs.all id:=by rw [n]; exact LSm.range_all bs
  rw [e]
  exact ⟨.bl (bs.all id),H,I.kept (t':=tk) (LSm.kept_iter hk),rfl,q⟩
end
section
variable {X:Cx}{pins:List (Addr × Obj)}{σ:St}{H:Hp}{s:Shared}{h':Heap}
theorem Inv.hnone (I:Inv X pins σ H s){a:Addr}(hp:s.heap.get? a=none):H a=none:=by
 cases q:H a with
 | none=>rfl
 | some u =>
   obtain ⟨ob,e1⟩:=(I.hok a u q).there
   rw [hp] at e1
   cases e1
theorem Inv.newObj {a:Addr}{o:HO}{t':Nat}(I:Inv X pins σ H s)(k:∀ b u,s.heap.get? b=some u->h'.get? b=some u)(hp:s.heap.get? a=none)(new:bc X.prog X.w (upd H a o) h' a o):
 Inv X pins σ (upd H a o) { s with heap:=h',toks:=t' }:=by
 have hn:=I.hnone hp
 have nb:∀ b u,s.heap.get? b=some u->b≠a:=fun b u e z=>by rw [z,hp] at e; cases e
 exact I.un ⟨fun b u q _ _ _=>k b u q,fun b u q _ _ _=>⟨u.slots,k b u q⟩,fun b u q n _=>by rw [aq (nb b u q)]; exact n,fun b u q _=>⟨u,k b u q⟩,
  fun b xs q=>by rw [aq (au q hn)]; exact q,fun b u xs q=>by rw [aq (au q hn)]; exact q,fun b ps q=>⟨#[],by rw [aq (au q hn),q]; simp⟩⟩ (dj (I.hok.kept k) hn new)
end
section
variable {X:Cx}{x:Str}{C:Addr}{B newId initId:String}{bmB:List Value}{p pos:Pos}{e:Expr}{es:List Expr}{t:TA}{r:List V->Hp->VK->Prop}
theorem xh (hc:bU X (.ref C) r)(kp:keepIn X.K (.ref C)=true)(hg:Gl X x)(hm:X.mg x=some (.ref C))(ha:PA X (e :: es) t)(hdb:(x == ("__debug__":Str))=false:=by decide)
 (he:starEach (e :: es) X.env=(false,eval e X.env):: starEach es X.env:=by rfl)(hpl:(backTo pos (starEach es X.env)).any (·.1)=false:=by rfl):PE X (.Call (.Name x p) (e :: es) [] pos) (C6 r t):=by
 intro pins s σ H Q I h
 refine wpAny_Call_Name_kw (c4 I hg hm ?_ hdb)
 exact PySem.W.callWith_K (h₀:=X.base) I.ok.mod.kin kp (bH (ha pos pins s σ H _ I h) fun us s1 ⟨vs,H1,I1,r1,q1⟩=>⟨I1.kIn,hc pins s1 σ H1 vs us Q I1 r1 q1⟩) he hpl
end
section
variable {P:Program}{w:World}{A:Around}{E:Value->Shared->Prop}{hp:Heap}{gs:Array GenState}{dr:Drawn}{tk:Nat}{os:OsState}
variable {nm qn:Str}{C N fI:Addr}{bs bm bmB bmN:List Value}{hdct ab:Bool}{sn:List Str}{sub:List Value}{col:Option Bool}{dd:Option Addr}{k0 k1 k2 k3 k5:Option Value}{B Bn newId nid initId inN:String}{mN:Str->Option Value}{us:List Value}{oI:Obj}
def c9 (hp:Heap)(C:Addr)(us:List Value):Heap:=(hp.push { cls:=.type "tuple",data:=.seq us.toArray }).push { cls:=.ref C,data:=.fields #[.ref hp.objs.size,.none,.none,.none,.bool false,.none] }
theorem cq {b:Addr}{o:Obj}(e:hp.get? b=some o):(c9 hp C us).get? b=some o:=Heap.get?_push_of_some _ (Heap.get?_push_of_some _ e)
theorem iW:(c9 hp C us).get? (hp.objs.size + 1)=some { cls:=.ref C,data:=.fields #[.ref hp.objs.size,.none,.none,.none,.bool false,.none] }:=by
 unfold c9
 heap_get
theorem lj:Heap.MadeExcOf hp (c9 hp C us) (hp.objs.size + 1) (.ref C) us :=
 ⟨fun b o e=>cq e,Heap.get?_none_of_le (Nat.le_succ _),hp.objs.size,iW,Heap.get?_none_of_le (Nat.le_refl _),Heap.get?_push_of_some _ (Heap.get?_push_at rfl rfl)⟩
structure InitBase (B:String)(bmB:List Value):Prop where
 mro:mroOf (.type B)=pure bmB
 look:∃ y,typeLookup (.type B) "__init__"=pure y
 noA:bmB.contains (.type "AttributeError")=false
 noN:bmB.contains (.type "NameError")=false
theorem wD {R:Result->Shared->Prop}(Fn:ExcBaseFacts Bn newId inN bmN)(hBn:bmB.contains (.type Bn)=true)(FB:InitBase B bmB)(T:OwnTail hp bmB bm)(hC:hp.get? C=some (excClassObj nm qn C N bs bm hdct sn sub ab col dd k0 k1 k2 k3 k5 newId))
 (hq:R (.ok (.ret (.ref (hp.objs.size + 1)))) ⟨c9 hp C us,gs,dr,tk,os⟩)(hrest:us.length≤sizeLine):codeAny (model P w) A (.builtin newId ⟨.ref C :: us,[]⟩) R ⟨hp,gs,dr,tk,os⟩:=by
 have isB:(Value.ref C :: bm).contains (.type Bn)=true:=by rw [List.contains_cons,T.hasType hBn]; simp
 have notA:(Value.ref C :: bm).contains (.type "AttributeError")=false:=by rw [List.contains_cons,T.hasType FB.noA]; simp
 have notN:(Value.ref C :: bm).contains (.type "NameError")=false:=by rw [List.contains_cons,T.hasType FB.noN]; simp
 have hends:=Fn.ends
 refine codeAny_builtinAt Fn.entry ?_
 unfold Builtin.«BaseException.__new__»
 refine PySem.wpAt_bind ?_
 show PySem.wpAt _ _ _ (stack >>= _) _ _ _
 refine PySem.wpAt_bind (PySem.wpAt_stack fun p below=>PySem.wpAt_of_wpAny ?_)
 wp_walk
 refine PySem.wpAt_of_wpAny ?_
 rw [Fn.owner]
 repeat (first | (with_reducible refine wpAny_madeHere_exc Fn.canon hC ?_) | (with_reducible refine wpAny_loadPart_at hC ?_) | (with_reducible refine wpAny_isSubtype_exc hC ?_; first | rw [isB] | rw [notA] | rw [notN]) | wp_step)
 show R _ _
 rw [Heap.size_push]
 exact hq
theorem jF (Fn:ExcBaseFacts Bn newId inN bmN)(hBn:bmB.contains (.type Bn)=true)(FB:InitBase B bmB)(T:OwnTail hp bmB bm){Q:PySem.Fin->Shared->Prop}
 (hC:hp.get? C=some (excClassObj nm qn C N bs bm hdct sn sub ab col dd k0 k1 k2 k3 k5 newId))(hN:hp.Ns N mN)(hi:mN "__init__"=some (.ref fI))(eI:hp.get? fI=some oI)(cI:oI.cls = .type "function")(hl:us.length≤sizeLine)
 (hq:∀ h' e,Heap.MadeExcOf hp h' e (.ref C) us->wpAny (model P w) A (call (.ref fI) (.ref e :: us)) (fun r s'=>r = .none∧Q (.done (.ret (.ref e))) s') E ⟨h',gs,dr,tk,os⟩):
 wpAny (model P w) A (Builtin.«type.__call__» ⟨.ref C :: us,[]⟩) Q E ⟨hp,gs,dr,tk,os⟩:=by
 repeat (first | (with_reducible refine wpAny_loadPart_at hC ?_) | (with_reducible refine wpAny_madeBy_exc hC ?_) | wp_step)
 refine codeAny_call_builtin_code (Code.quiet_builtin _ Fn.quiet) (wpAny_check_new_subU Fn hBn T hC (wD Fn hBn FB T hC ?_ hl))
 show wpAny _ _ _ _ _ ⟨c9 hp C us,gs,dr,tk,os⟩
 have gC:=cq (C:=C) (us:=us) hC
 have gI:=cq (C:=C) (us:=us) eI
 have gN:(c9 hp C us).Ns N mN:=hN.keeps fun b o e=>cq e
 have gT:OwnTail (c9 hp C us) bmB bm:=T.keeps fun b o e=>cq e
 have gE:=iW (hp:=hp) (C:=C) (us:=us)
 have self:(Value.ref C :: bm).contains (.ref C)=true:=by simp
 unfold isInstance
 repeat (first | (with_reducible refine wpAny_loadPart_at gE ?_) | (with_reducible refine wpAny_isSubtype_exc gC ?_; rw [self]) | wp_step)
 show wpAny _ _ (typeLookup (.ref C) _) _ _ _
 obtain ⟨y,look⟩:=FB.look
 refine wpAny_typeLookup_tail gC gN gT FB.mro look ?_
 rw [hi]
 refine wpAny_holding (wpAny_bind ?_)
 unfold bindSpecial
 refine wpAny_bind (wpAny_typeOf (T:="function") ⟨_,gI,cI⟩ ?_)
 rw [if_pos (by decide)]
 refine wpAny_pure (wpAny_bind (wpAny_mono (hq _ _ lj) (fun r s' z=>?_) fun _ _ x=>x))
 obtain ⟨rfl,z⟩:=z
 wp_walk
 exact z
theorem kU (Fn:ExcBaseFacts Bn newId inN bmN)(hBn:bmB.contains (.type Bn)=true)(FB:InitBase B bmB)(T:OwnTail hp bmB bm){Q:Value->Shared->Prop}
 (hC:hp.get? C=some (excClassObj nm qn C N bs bm hdct sn sub ab col dd k0 k1 k2 k3 k5 newId))(hN:hp.Ns N mN)(hi:mN "__init__"=some (.ref fI))(eI:hp.get? fI=some oI)(cI:oI.cls = .type "function")(hl:us.length≤sizeLine)
 (hq:∀ h' e,Heap.MadeExcOf hp h' e (.ref C) us->wpAny (model P w) (A.under (.builtin "type.__call__" ⟨.ref C :: us,[]⟩)) (call (.ref fI) (.ref e :: us)) (fun r s'=>r = .none∧Q (.ref e) s') E ⟨h',gs,dr,tk,os⟩):
 wpAny (model P w) A (call (.ref C) us) Q E ⟨hp,gs,dr,tk,os⟩:=by
 have t1:=tc_lookup
 have t2:=tc_bind (.ref C)
 have hT:(⟨hp,gs,dr,tk,os⟩:Shared).TypeIs (.ref C) "type":=⟨_,hC,rfl⟩
 refine wpAny_call (codeAny_of_tree ?_)
 show wpAny _ _ (callAny (.ref C) _) _ _ _
 repeat (any_goals (first | assumption | (with_reducible refine wpAny_loadPart_at hC ?_) | wp_step))
 exact ⟨rfl,codeAny_call_builtin_at (Code.quiet_builtin _ (by decide +kernel)) entry_typeCall (wpAny_check_type_call_sub hC (jF Fn hBn FB T hC hN hi eI cI hl fun h' e hm=>hq h' e hm))⟩
end
theorem qV:InitBase "ValueError" [.type "ValueError",.type "Exception",.type "BaseException",.type "object"] :=
 ⟨by rw [mroOf_type]; kernel_rfl,⟨_,PySem.F.excBase_ValueError.init.lookup⟩,by decide +kernel,by decide +kernel⟩
def pR (a:Addr)(cls:Value):HO:=.ext fun h=>∃ o vs,h.get? a=some o∧o.cls=cls∧o.data = .fields vs∧o.dict=none∧dw vs
def fe (dx:Addr)(fs:List (Str × V)):HO:=.ext fun h=>∃ mA,h.Ns1 dx mA∧(∀ f,dt (fs.lookup f) (mA f))∧Within mA (fs.map (·.1))
section
variable {P:Program}{w:World}{H:Hp}{h:Heap}{a dx:Addr}{cls:Value}{fs:List (Str × V)}{fr:Bool}
theorem zX {o:Obj}{vs:Array Value}(e:h.get? a=some o)(hc:o.cls=cls)(hd:o.data = .fields vs)(hn:o.dict=none)(hu:dw vs):bc P w H h a (pR a cls):=
 ⟨⟨o,vs,e,hc,hd,hn,hu⟩,⟨o,e⟩,fun h1 h2 ⟨o,vs,e,hc,hd,hn,hu⟩ k=>⟨o,vs,k o e,hc,hd,hn,hu⟩⟩
theorem Af {o:Obj}{vs:Array Value}(e:h.get? a=some o)(hc:o.cls=cls)(hd:o.data = .fields vs)(hn:o.dict=some dx)(hu:fr=true->dw vs):bc P w H h a (dW a cls dx fr):=
 ⟨⟨o,vs,e,hc,hd,hn,hu⟩,⟨o,e⟩,fun h1 h2 ⟨o,vs,e,hc,hd,hn,hu⟩ k=>⟨o,vs,k o e,hc,hd,hn,hu⟩⟩
theorem zK (k:eK P w H h)(e:H a=some (pR a cls)):∃ o vs,h.get? a=some o∧o.cls=cls∧o.data = .fields vs∧o.dict=none∧dw vs:=(k a _ e).1
theorem hV (k:eK P w H h)(e:H a=some (dW a cls dx fr)):∃ o vs,h.get? a=some o∧o.cls=cls∧o.data = .fields vs∧o.dict=some dx∧(fr=true->dw vs):=(k a _ e).1
theorem yY (k:eK P w H h)(e:H dx=some (fe dx fs)):∃ mA,h.Ns1 dx mA∧(∀ f,dt (fs.lookup f) (mA f))∧Within mA (fs.map (·.1)):=(k dx _ e).1
theorem zw {mA:Str->Option Value}(n:h.Ns1 dx mA)(r:∀ f,dt (fs.lookup f) (mA f))(wi:Within mA (fs.map (·.1))):bc P w H h dx (fe dx fs):=by
 refine ⟨⟨mA,n,r,wi⟩,?_,fun h1 h2 ⟨m,n,r,wi⟩ k=>⟨m,?_,r,wi⟩⟩
 ·obtain ⟨o,es,ep,e,_⟩:=n
  exact ⟨o,e⟩
 ·obtain ⟨o,es,ep,e,rest⟩:=n
  exact ⟨o,es,ep,k o e,rest⟩
end
def nA (K:Frag)(C f:Addr)(bmB:List Value)(newId:String):Bool :=
 match K.lookup C with
 | some ⟨.type "type",_,.cls cd,sl⟩ =>
   match cd.mro,sl.toList with
   | .ref D :: tl,[_,_,_,_,some (.builtin made),_]=>(D == C)&&((made == newId)&&((!cd.hasDel)&&(tailIn K bmB tl&&(nsOkIn K cd.ns&&(nsIn K cd.ns "__init__" == some (some (.ref f)))))))
   | _,_=>false
 | _=>false
theorem Ck {K:Frag}{h:Heap}{N:Addr}{m:Str->Option Value}{n:Str}{v:Value}(X:K.In h)(G:h.Ns N m)(e:nsIn K N n=some (some v)):m n=some v:=by
 obtain ⟨o,es,ep,ho,hd,z,hf⟩:=G
 unfold nsIn at e
 split at e
 ·rename_i q
  have w:=(X _ _ q).symm.trans ho
  cases w
  cases hd
  rw [← hf]
  split at e
  ·rename_i en he
   have e2:en.val=v:=Option.some.inj (Option.some.inj e)
   simp only [nsFind,findBy,← Array.find?_toList,he]
   exact congrArg some e2
  ·split at e <;> cases e
 ·cases e
theorem yi {K:Frag}{h:Heap}{C f:Addr}{bmB:List Value}{newId:String}(X:K.In h)(q:nA K C f bmB newId=true):
 ∃ bm N nm qn bs hd sn sub ab col dd k0 k1 k2 k3 k5 mN,h.get? C=some (excClassObj nm qn C N bs bm hd sn sub ab col dd k0 k1 k2 k3 k5 newId)∧h.Ns N mN∧mN "__init__"=some (.ref f)∧OwnTail h bmB bm:=by
 unfold nA at q
 split at q
 ·rename_i dd cd sl ho
  split at q
  ·rename_i D tl k0 k1 k2 k3 made k5 hm hs
   rw [Bool.and_eq_true,Bool.and_eq_true,Bool.and_eq_true,Bool.and_eq_true,Bool.and_eq_true] at q
   obtain ⟨q1,q2,q3,q4,q5,q6⟩:=q
   have q1:=eq_of_beq q1
   have q2:=eq_of_beq q2
   subst q1 q2
   obtain ⟨nm,bs,mro,ns,qn,hd,sn,sub,ab,col,v9⟩:=cd
   have q7:v9=false:=by simpa using q3
   dsimp only at hm
   subst hm q7
   have hsl:sl = #[k0,k1,k2,k3,some (.builtin made),k5]:=by
    obtain ⟨l⟩:=sl
    simp only at hs
    rw [hs]
   subst hsl
   have G:h.Ns ns _:=.of_isNs (isNs_of_in X q5)
   exact ⟨tl,ns,nm,qn,bs,hd,sn,sub,ab,col,dd,k0,k1,k2,k3,k5,_,X _ _ ho,G,Ck X G (eq_of_beq q6),tail_of_in X q4⟩
  ·cases q
 ·cases q
section
variable {X:Cx}{CX:CXT}{k:Nat}{f C:Addr}{fd:FuncData}{ps:List Str}{sp:Sp}{E:XK}{B Bn newId nid initId inN:String}{bmB bmN:List Value}{oI:Obj}
def pD (C:Addr)(sp:Sp)(E:XK):List V->Hp->VK->Prop:=fun vs H Q=>vs.length≤sizeLine∧∀ a,H a=none->sp (.ref a :: vs) (upd H a (pR a (.ref C))) (fun v H2=>v = .non∧Q (.ref a) H2) E
theorem uF (Fn:ExcBaseFacts Bn newId inN bmN)(hBn:bmB.contains (.type Bn)=true)(FB:InitBase B bmB)(q:nA X.K C f bmB newId=true)(lI:X.K.lookup f=some oI)(cI:oI.cls = .type "function")
 (F:FnOk X.prog X.w X.K X.mg X.base CX k f fd ps sp)(hr:Room (k + 1) X.A)(hb:aH X.K fd ps [])(hx:cM CX X E):bU X (.ref C) (pD C sp E):=by
 intro pins s σ H vs us Q I r ⟨hl,h⟩
 obtain ⟨bm,N,nm,qn,bs,hdct,sn,sub,ab,col,dd,k0,k1,k2,k3,k5,mN,hC,hN,hi,T⟩:=yi I.kIn q
 have hl':us.length≤sizeLine:=by rw [← r.length]; exact hl
 refine kU Fn hBn FB T hC hN hi (I.kIn _ _ lI) cI hl' fun h' a hm=>?_
 obtain ⟨t,h1,h2,h3⟩:=hm.there
 have I2:=I.newObj (t':=s.toks) (o:=pR a (.ref C)) hm.keeps hm.new (zX h1 rfl rfl rfl ⟨t,rfl⟩)
 have hq:=h a (I.hnone hm.new)
 have r2:aG (V.ref a :: vs) (Value.ref a :: us):=.cons rfl r
 have hl2:(Value.ref a :: us++[]).length=ps.length:=by
  have e:=r2.length
  rw [F.len _ _ _ _ hq] at e
  rw [List.append_nil]
  exact e.symm
 have hbt:=hb _ (Value.ref a :: us) I2.kIn hl2
 rw [List.append_nil] at hbt
 refine wpAny_call (codeAny_mono (F.run _ X.stack _ _ ⟨Value.ref a :: us,[]⟩ (Value.ref a :: us) _ _ E (hr.make C us []) (I2.env0.make C us []) hbt r2 hq) fun res s' hq'=>?_)
 cases res with
 | error e=>exact hx pins σ _ _ e s' I2 hq'
 | ok fl =>
   cases fl with
   | ret u =>
     obtain ⟨v,H',I3,rv,ev,q3⟩:=I2.after hq'
     subst ev
     exact ⟨rv,⟨V.ref a,H',I3,rfl,q3⟩⟩
   | next=>exact False.elim hq'
   | brk=>exact False.elim hq'
   | cont=>exact False.elim hq'
end
def g9:List Value->List Value
 | .ref _ :: r=>g9 r
 | l=>l
abbrev Az:List Value:=[.type "ValueError",.type "Exception",.type "BaseException",.type "object"]
abbrev Ax:List Value:=[.type "KeyError",.type "LookupError",.type "Exception",.type "BaseException",.type "object"]
theorem pG (self:Value)(l:List Value):refuseLoop self "__setattr__" l=refuseLoop self "__setattr__" (g9 l):=by
 induction l with
 | nil=>rfl
 | cons v r ih =>
   cases v with
   | ref c=>rw [refuseLoop_ref]; exact ih
   | _=>rfl
theorem vv (self:Value):refuseLoop self "__setattr__" Az=pure ():=by kernel_rfl
theorem uz (self:Value):refuseLoop self "__setattr__" Ax=pure ():=by kernel_rfl
structure ExcS (K:Frag)(C:Addr):Prop where
 ek:ExcK K C
 ok:((clsIn K C).any fun cd=>cd.hasDict&&(g9 cd.mro == Az || g9 cd.mro == Ax))=true
 sa:findIn K (.ref C) "__setattr__"=some (some (.builtin "object.__setattr__"))
section
variable {P:Program}{w:World}{A:Around}{E:Value->Shared->Prop}{K:Frag}{C x dx:Addr}{s:Shared}{ox:Obj}{od:Option Obj}{name:Str}{v:Value}{mA:Str->Option Value}
theorem ExcS.cd (k:ExcS K C):∃ cd,clsIn K C=some cd∧cd.hasDict=true∧∀ self,refuseLoop self "__setattr__" cd.mro=pure ():=by
 obtain ⟨cd,hc,z⟩:=any_some k.ok
 rw [Bool.and_eq_true] at z
 refine ⟨cd,hc,z.1,fun self=>?_⟩
 rw [pG]
 rcases Bool.or_eq_true _ _ ▸ z.2 with q | q
 ·rw [eq_of_beq q]; exact vv self
 ·rw [eq_of_beq q]; exact uz self
theorem zN {R:Result->Shared->Prop}{tk:Tok}(X:K.In s.heap)(k:ExcS K C)(J:InstAt s.heap x ox C od)(hn:findIn K (.ref C) name=some none)
 (h:wpAny (model P w) A.in1 (Builtin.ObjectAttr.storeInOwnDict (.ref x) (.ref C) (.str name tk) name v false)
  (fun fin s'=>match fin with | .done f=>R (.ok f) s' | .again c'=>c'.quiet=true∧codeAny (model P w) A c' R s') (fun e s'=>R (.error e) s') s):
 codeAny (model P w) A (.call (.builtin "object.__setattr__") ⟨[.ref x,.str name tk,v],[]⟩) R s:=by
 have SF:=PySem.F.store_object
 obtain ⟨cd,hc,hh,hp⟩:=k.cd
 have sub:Looks (model P w) s.heap (isInstance (.ref x) (.type "object")) true:=J.type.andThen (looks_mroIn X k.ek.ob)
 have hm:Looks (model P w) s.heap (mroOf (.ref C)) cd.mro:=(looks_clsIn X hc).andThen .now
 refine codeAny_call_builtin SF.slot.plain SF.entry (@check_slot (model P w) _ _ s "object.__setattr__" "object" "__setattr__" (.ref x) [.str name tk,v] [] _ SF.kind SF.split sub (SF.args (.ref x) (.str name tk) v) ?_)
 rw [osa_eq,refuse_eq]
 refine wpAny_bind (wpAny_bind (J.type.here (wpAny_bind (hm.here ?_))))
 rw [hp]
 refine wpAny_pure (wpAny_bind (J.type.here (wpAny_bind ((looks_findIn X hn).here (wpAny_bind ?_)))))
 exact wpAny_pure h
theorem yc {Q:Unit->Shared->Prop}(X:K.In s.heap)(k:ExcS K C)(hx:s.heap.get? x=some ox)(hc:ox.cls = .ref C){vs:Array Value}(hd:ox.data = .fields vs)(ho:ox.dict=none)(hn:findIn K (.ref C) name=some none)
 (h:∀ h',h'.Ns1 s.heap.objs.size (fun y=>if y=name then some v else none)->h'.get? x=some { ox with dict:=some s.heap.objs.size }->(∀ b o,b≠x->s.heap.get? b=some o->h'.get? b=some o)->Q () { s with heap:=h',toks:=s.toks + 2 }):
 wpAny (model P w) A (setAttr (.ref x) name v) Q E s:=by
 have J:InstAt s.heap x ox C none:=⟨hx,hc,by unfold notCls; rw [hd],by rw [ho]; trivial⟩
 refine set_plain X J k.sa (zN (s:={ s with toks:=s.toks + 1 }) X k J hn ?_)
 obtain ⟨cd,hcd,hh,_⟩:=k.cd
 obtain ⟨oc,odi,oda,osl⟩:=ox
 dsimp only at hc hd ho
 subst hc hd ho
 refine wpAny_bind (wpAny_pure (wpAny_bind (wpAny_bind (wpAny_loadPart hx (wpAny_bind (PySem.W.Looks.here (s:={ s with toks:=s.toks + 1 }) (PySem.W.looks_clsIn X hcd) ?_))))))
 rw [hh]
 show wpAny _ _ (alloc _ >>= fun d=>update x _ >>= fun _=>dictMade _ x d) _ _ _
 have hne:x≠s.heap.objs.size:=Nat.ne_of_lt (Heap.lt_size hx)
 have e1:(s.heap.push { cls:=.type "dict",data:=.dict #[] }).get? x=some ⟨.ref C,none,.fields vs,osl⟩:=Heap.get?_push_of_some _ hx
 refine wpAny_bind (wpAny_alloc' (wpAny_bind (wpAny_update' e1 ?_)))
 show wpAny _ _ (pure (some s.heap.objs.size)) _ _ _
 refine wpAny_pure ?_
 have e2:((s.heap.push { cls:=.type "dict",data:=.dict #[] }).update x fun o=>{ cls:=o.cls,dict:=some s.heap.objs.size,data:=o.data,slots:=o.slots }).get? s.heap.objs.size=some { cls:=.type "dict",data:=.dict #[] }:=
  (Heap.get?_update_ne _ _ _ _ hne.symm).trans (Heap.get?_push_at rfl rfl)
 have e3:((s.heap.push { cls:=.type "dict",data:=.dict #[] }).update x fun o=>{ cls:=o.cls,dict:=some s.heap.objs.size,data:=o.data,slots:=o.slots }).get? x=some ⟨.ref C,some s.heap.objs.size,.fields vs,osl⟩ :=
  Heap.get?_update_self _ e1 rfl
 have e4:((s.heap.push { cls:=.type "dict",data:=.dict #[] }).update x fun o=>{ cls:=o.cls,dict:=some s.heap.objs.size,data:=o.data,slots:=o.slots }).Ns s.heap.objs.size (fun _=>none):=
  ⟨_,#[],_,e2,rfl,fun e he=>absurd he (by simp),fun _=>rfl⟩
 show wpAny _ _ (Builtin.ObjectAttr.storeInDict s.heap.objs.size (.str name s.toks) name v) _ _ _
 unfold Builtin.ObjectAttr.storeInDict Builtin.ObjectAttr.newKeyGuard
 refine wpAny_bind (wpAny_pure (wpAny_bind (wpAny_nsSet1 (Heap.Ns1.of_empty e4) fun h' n2 sb=>?_)))
 obtain ⟨oD,esD,epD,hoD,hdD,hcD⟩:=n2.count (Within.cons name v Within.nil)
 refine wpAny_bind (wpAny_lookBehind hoD (by rw [hdD]; exact pastItsLine_dict (Nat.le_trans hcD (by rw [List.length_cons,List.length_nil,sizeLine_eq]; omega))) ?_)
 refine wpAny_pure (h h' n2 ((sb.2 x hne).trans e3) fun b o hb e=>(sb.2 b (Nat.ne_of_lt (Heap.lt_size e))).trans ((Heap.get?_update_ne _ _ _ _ hb).trans (Heap.get?_push_of_some _ e)))
theorem i8 {tk:Tok}{Q:PySem.Fin->Shared->Prop}(X:K.In s.heap)(J:InstAt s.heap x ox C od)(hf:findObj K C od name=some (.value v))(hq:Q (.done (.ret v)) s):
 wpAny (model P w) A (Builtin.«object.__getattribute__» ⟨[.ref x,.str name tk],[]⟩) Q E s:=by
 obtain ⟨hh,g,d,t,os⟩:=s
 have L0:=J.type (M:=model P w)
 have L1:=looks_find (M:=model P w) X J hf
 refine wpAny_bind (wpAny_pure (wpAny_bind (wpAny_pure (wpAny_bind (L0.at (wpAny_bind (L1.at ?_)))))))
 exact wpAny_pure hq
theorem qG {tk:Tok}{fill expr:Bool}{Q:Value->Shared->Prop}(X:K.In s.heap)(k:ExcK K C)(J:InstAt s.heap x ox C od)(hf:findObj K C od name=some (.value v))(hh:handedIn v=true)(hq:Q v s):
 wpAny (model P w) A (getAttrBy (.ref x) (.str name tk) fill expr) Q E s:=by
 obtain ⟨hh',g,d,t,os⟩:=s
 have L0:Looks (model P w) hh' (typeOf (.ref x)) (.ref C):=J.type
 have L1:=looks_findIn (M:=model P w) X k.ga
 have L2:=looks_findIn (M:=model P w) X k.gx
 have f3:=F.attr_ValueError.ga.bind (.ref x)
 have hx0:(expr&&onTheHeap (Value.builtin "BaseException.__getattribute__"))=false:=by cases expr <;> rfl
 have hx2:(Value.builtin "BaseException.__getattribute__" == Value.builtin "object.__getattribute__")=false:=by decide +kernel
 have hx1:(onTheHeap (Value.ref C)&&Value.builtin "BaseException.__getattribute__" == Value.builtin "object.__getattribute__")=false:=by rw [hx2]; rfl
 have hho:=handedOut_of hh
 repeat (any_goals (first | assumption | (with_reducible refine Looks.at (by assumption) ?_) | (with_reducible refine Looks.at L0 ?_) | wp_step))
 refine codeAny_call_builtin F.attr_ValueError.ga.plain F.entry_bexc_ga (ma X k J.at_ J.cls (i8 X J hf ?_))
 repeat (any_goals (first | assumption | (rw [hho]) | wp_step))
theorem Aw {expr:Bool}{Q:Value->Shared->Prop}(X:K.In s.heap)(k:ExcK K C)(J:InstAt s.heap x ox C od)(hf:findObj K C od name=some (.value v))(hh:handedIn v=true)(hq:Q v { s with toks:=s.toks + 1 }):
 wpAny (model P w) A (getAttr (.ref x) name expr) Q E s:=by
 unfold getAttr
 exact wpAny_bind (wpAny_mkText (qG (s:={ s with toks:=s.toks + 1 }) X k J hf hh hq))
end
section
variable {X:Cx}{pins:List (Addr × Obj)}{σ:St}{H:Hp}{s:Shared}{A:Around}{E:Value->Shared->Prop}{a dx C:Addr}{fs:List (Str × V)}{f:Str}{v:V}{fr:Bool}
theorem oY {b:Bool}{Q:Value->Shared->Prop}(I:Inv X pins σ H s)(e:H a=some (dW a (.ref C) dx fr))(ed:H dx=some (fe dx fs))(k:ExcS X.K C)(n:cn X.K C f)(l:fs.lookup f=some v)
 (h:∀ u s',Inv X pins σ H s'->aE v u->Q u s'):wpAny (model X.prog X.w) A (getAttr (.ref a) f b) Q E s:=by
 obtain ⟨o,vs,ho,hc,hd,hx,hu⟩:=hV I.hok e
 obtain ⟨mA,ns,r,_⟩:=yY I.hok ed
 obtain ⟨u,hu,ru⟩:=dt.some_of (v:=v) (o:=mA f) (by rw [← l]; exact r f)
 obtain ⟨od,hod,hl⟩:=mf ns
 have J:InstAt s.heap a o C (some od):=⟨ho,hc,by unfold notCls; rw [hd],by rw [hx]; exact hod⟩
 obtain ⟨cd,hcd,hh,_⟩:=k.cd
 exact Aw I.kIn k.ek J (findObj_own (by unfold hasDictIn; rw [hcd]; exact hh) n rfl (by rw [hl,hu])) (mq ru) (h u _ (I.tok _) ru)
theorem nY {y:V}{u:Value}{Q:Unit->Shared->Prop}(I:Inv X pins σ H s)(e:H a=some (pR a (.ref C)))(k:ExcS X.K C)(n:cn X.K C f)(ry:aE y u)
 (h:∀ dx s',H dx=none->dx≠a->Inv X pins σ (upd (upd H dx (fe dx [(f,y)])) a (dW a (.ref C) dx true)) s'->Q () s'):wpAny (model X.prog X.w) A (setAttr (.ref a) f u) Q E s:=by
 obtain ⟨o,vs,ho,hc,hd,hx,hu⟩:=zK I.hok e
 refine yc I.kIn k ho hc hd hx n fun h' n2 hx2 hk=>?_
 have hne:s.heap.objs.size≠a:=fun z=>absurd (Heap.lt_size ho) (by rw [z]; exact Nat.lt_irrefl _)
 have hn0:H s.heap.objs.size=none:=I.hok.fresh (Nat.le_refl _)
 refine h _ _ hn0 hne ?_
 obtain ⟨oc,odi,oda,osl⟩:=o
 dsimp only at hc hd hx
 subst hc hd hx
 have m1:(h'.update a fun _=>⟨.ref C,none,.fields vs,osl⟩).get? a=some ⟨.ref C,none,.fields vs,osl⟩:=Heap.get?_update_self _ hx2 rfl
 have m2:∀ b,b≠a->(h'.update a fun _=>⟨.ref C,none,.fields vs,osl⟩).get? b=h'.get? b:=fun b hb=>Heap.get?_update_ne _ _ _ _ hb
 have nsm:(h'.update a fun _=>⟨.ref C,none,.fields vs,osl⟩).Ns1 s.heap.objs.size (fun y=>if y=f then some u else none):=by
  obtain ⟨o2,es,ep,e2,rest⟩:=n2
  exact ⟨o2,es,ep,(m2 _ hne).trans e2,rest⟩
 have rel:∀ g,dt ([(f,y)].lookup g) (if g=f then some u else none):=fun g=>by
  by_cases q:g=f
  ·rw [if_pos q,q]
   simp only [List.lookup,beq_self_eq_true]
   exact ry
  ·rw [if_neg q]
   have:(g == f)=false:=by simpa using q
   simp only [List.lookup,this]
   exact True.intro
 have wi:Within (fun g=>if g=f then some u else none) ([(f,y)].map (·.1)):=fun g hg=>by
  by_cases q:g=f
  ·rw [q]; simp
  ·exact absurd (if_neg q) hg
 have I1:=I.laid (a:=s.heap.objs.size) (o:=fe s.heap.objs.size [(f,y)]) (h':=h'.update a fun _=>⟨.ref C,none,.fields vs,osl⟩) (t':=s.toks + 2) (fun b z q=>by
  by_cases hb:b=a
  ·subst hb
   rw [ho] at q
   cases q
   exact m1
  ·exact (m2 b hb).trans (hk b z hb q)) (Nat.le_refl _) (zw nsm rel wi)
 exact I1.write (x:=a) (e:=a) (by rw [aq (Ne.symm hne),e]; exact True.intro) (.inl rfl) (fun b z hb q=>(m2 b hb).symm.trans q) ⟨_,hx2⟩ (Af hx2 rfl rfl rfl fun _=>hu)
end
def AH (K:Frag)(ta:TE)(f:Str):TE:=fun σ H Q=>ta σ H fun x H1=>∃ a C dx fr fs v,x = .ref a∧H1 a=some (dW a (.ref C) dx fr)∧H1 dx=some (fe dx fs)∧ExcS K C∧cn K C f∧fs.lookup f=some v∧Q v H1
def BX (K:Frag)(ta tv:TE)(f:Str):TS:=fun D σ H=>tv σ H fun y H1=>ta σ H1 fun x H2=>∃ a C,x = .ref a∧H2 a=some (pR a (.ref C))∧ExcS K C∧cn K C f∧∀ dx,H2 dx=none->dx≠a->D.nx σ (upd (upd H2 dx (fe dx [(f,y)])) a (dW a (.ref C) dx true))
section
variable {X:Cx}{o e value:Expr}{f:Str}{pos pos':Pos}{ta tv:TE}
theorem zm (he:PE X e ta)(hb:attributeBase e f X.env (eval e X.env)=eval e X.env):PE X (.Attribute e f pos) (AH X.K ta f):=by
 intro pins s σ H Q I h
 refine sm hb (bH (he pins s σ H _ I h) fun u s1 ⟨x,H1,I1,rx,a,C,dx,fr,fs,v,ex,ea,ed,k,n,l,q⟩=>?_)
 subst ex
 cases (show u=Value.ref a from rx)
 exact oY I1 ea ed k n l fun u' s2 I2 ru=>⟨v,H1,I2,ru,q⟩
theorem v7 (ha:PE X o ta)(hv:PE X value tv)(hs:swapsWith value (some (.Attribute o f pos')) pos.line X.env=pure false):PS X (.Assign [.Attribute o f pos'] value pos) (BX X.K ta tv f):=by
 intro pins s σ H D I h
 refine plainObj_wpAny_Assign_Attribute (bH (hv pins s σ H _ I h) fun u s1 ⟨y,H1,I1,ry,q⟩=>bH (ha pins s1 σ H1 _ I1 q) fun ov s2 ⟨x,H2,I2,rx,a,C,ex,ea,k,n,q2⟩=>?_) hs
 subst ex
 cases (show ov=Value.ref a from rx)
 exact nY I2 ea k n ry fun dx s3 hn ne I3=>⟨σ,_,I3,q2 dx hn ne⟩
theorem mE:bU X (.builtin "isinstance") (fun xs H Q=>∃ a C dx fr c cv b,xs=[.ref a,c]∧Bs c cv∧H a=some (dW a (.ref C) dx fr)∧ExcK X.K C∧kitOne X.K (.ref C) cv=some b∧Q (.bl b) H):=by
 intro pins s σ H xs us Q I r h
 obtain ⟨a,C,dx,fr,c,cv,b,rfl,hc,ea,k,e,q⟩:=h
 cases r with
 | cons r1 r2 =>
   cases r2 with
   | cons r2 r3 =>
     cases r3
     rename_i u uc
     have huc:uc=cv:=by
      cases c with
      | ty n=>cases (show uc=Value.type n from r2); exact hc.symm
      | ref a=>cases (show uc=Value.ref a from r2); exact hc.symm
      | _=>exact hc.elim
     subst huc
     cases (show u=Value.ref a from r1)
     obtain ⟨o,vs,h1,h2,_⟩:=hV I.hok ea
     exact kia_one (kb k) I.kIn ⟨o,h1,h2⟩ e (fun z=>nomatch z) fun tk=>⟨.bl b,H,I.tok tk,rfl,q⟩
end
def d7 (K:Frag)(C:Addr):Prop:=∃ oC,K.lookup C=some oC∧oC.cls = .type "type"
section
variable {M:Model}{A:Around}{E:Value->Shared->Prop}{K:Frag}{s:Shared}{env:Env}
theorem uB {x:Sem Value}{Q:Flow->Shared->Prop}(hh:A.handled=none)
 (h:wpAny M A x (fun v s₁=>∃ e oe C vs,v = .ref e∧K.In s₁.heap∧ExcK K C∧d7 K C∧s₁.heap.get? e=some oe∧oe.cls = .ref C∧oe.data = .fields vs∧dw vs∧E (.ref e) s₁) E s):
 wpAny M A (raiseStmt env (some x) none) Q E s:=by
 unfold raiseStmt
 refine wpAny_bind (wpAny_mono h (fun v s₁ h₁=>?_) fun _ _ x=>x)
 obtain ⟨e,oe,C,vs,rfl,X,k,⟨oC,lC,cC⟩,he,hc,hd,⟨t,rfl⟩,hE⟩:=h₁
 obtain ⟨hp,g,d,tk,os⟩:=s₁
 obtain ⟨oc,od,oda,osl⟩:=oe
 dsimp only at hc hd
 subst hc hd
 have L0:Looks M hp (typeOf (.ref e)) (.ref C):=(Looks.ld he).andThen .now
 have L1:=looks_mroIn (M:=M) X k.be
 have hC:hp.get? C=some oC:=X _ _ lC
 repeat (first | (with_reducible refine wpAny_loadPart_at he ?_) | (with_reducible refine wpAny_loadPart_at hC ?_; rw [cC]) | (with_reducible refine Looks.at L0 ?_) | (with_reducible refine Looks.at L1 ?_) | wp_step)
 exact wpAny_raiseNew_none hh hE
end
section
variable {X:Cx}{pins pins':List (Addr × Obj)}{σ:St}{H:Hp}{s:Shared}{XE:Value->Shared->Prop}{a dx C:Addr}
def As (K:Frag)(R:St->Addr->Addr->Addr->Hp->Prop)(te:TE):TS:=fun _ σ H=>te σ H fun v H1=>∃ a C dx,v = .ref a∧H1 a=some (dW a (.ref C) dx true)∧ExcK K C∧d7 K C∧R σ a C dx H1
theorem mj {R:St->Addr->Addr->Addr->Hp->Prop}{e:Expr}{te:TE}{pos:Pos}(hc:X.calm=true)(hR:∀ pins σ H s a C dx,Inv X pins σ H s->H a=some (dW a (.ref C) dx true)->R σ a C dx H->X.xe (.ref a) s)(he:PE X e te):
 PS X (.Raise (some e) none pos) (As X.K R te):=by
 intro pins s σ H D I h
 rw [arm_exec_Raise]
 refine wpAny_bind (wpAny_standAt (uB (K:=X.K) (I.ok.hd hc) (wpAny_bind (bH (he pins s σ H _ I h) fun u s1 ⟨v,H1,I1,rv,a,C,dx,ev,ea,k,tc,r⟩=>wpAny_bind (wpAny_standAt (wpAny_pure ?_))))))
 subst ev
 cases (show u=Value.ref a from rv)
 obtain ⟨oe,vs,h1,h2,h3,_,h5⟩:=hV I1.hok ea
 exact ⟨a,oe,C,vs,rfl,I1.kIn,k,tc,h1,h2,h3,h5 rfl,hR pins σ H1 s1 a C dx I1 ea r⟩
end
end L2
namespace Dit
open PySem PySem.W PyProof.Rows
section
variable {prog:Program}{w:World}{A:Around}{E:Value->Shared->Prop}{s:Shared}{d it:Addr}{es:Array DictEntry}{ep:Nat}{o:Obj}
structure Raw (h:Heap)(d:Addr)(es:Array DictEntry)(ep:Nat):Prop where
 ex:∃ o,h.get? d=some o∧o.ExactDict∧o.data = .dict es ep
theorem Raw.ty (r:Raw s.heap d es ep):s.TypeIs (.ref d) "dict":=let ⟨o,h,x,_⟩:=r.ex; ⟨o,h,x.1⟩
theorem Raw.keep {h h':Heap}(r:Raw h d es ep)(k:∀ o,h.get? d=some o->h'.get? d=some o):Raw h' d es ep:=let ⟨o,h1,x⟩:=r.ex; ⟨o,k o h1,x⟩
theorem qP {Q:Value->Shared->Prop}(r:Raw s.heap d es ep)(hd:(d == sysModules)=false)(h:Q (.ref s.heap.objs.size) { s with heap:=s.heap.push { cls:=.type "dict_items",data:=.fields #[.ref d] } }):
 wpAny (model prog w) A (call (.builtin "dict.items") [.ref d]) Q E s:=by
 refine wpAny_call_entry F.slot_dict_items r.ty F.entry_dict_items ?_ (F.args_dict_items_1 _)
 unfold Builtin.«dict.items» Builtin.Dict.noArgs; refine wpAny_bind (wpAny_bind (wpAny_notOrdered_dict r.ty (wpAny_pure ?_)))
 show wpAny _ _ (Builtin.Dict.showsAll d >>= _) _ _ s; unfold Builtin.Dict.showsAll; rw [if_neg (by rw [hd]; exact Bool.false_ne_true)]
 exact wpAny_bind (wpAny_pure (wpAny_bind (wpAny_newObj_type (wpAny_pure ⟨_,rfl,h⟩))))
theorem qz {v:Addr}{Q:Value->Shared->Prop}(hv:s.heap.IsItemsView v d)(r:Raw s.heap d es ep)
 (hQ:Q (.ref s.heap.objs.size) { s with heap:=s.heap.push { cls:=.type "dict_itemiterator",data:=.fields #[.none,.bool false,.ref d,.int 0 0,.int es.size 0,.int ep 0,.none,.none] } }):wpAny (model prog w) A (pyIter (.ref v)) Q E s:=by
 obtain ⟨ov,g1,g2,g3⟩:=id hv
 obtain ⟨o,h1,h2,h3⟩:=r.ex
 refine wpAny_pyIter_slot hv.typeIs F.slot_dict_items_iter (wpAny_call_entry F.slot_dict_items_iter hv.typeIs F.entry_dict_items_iter ?_ (F.args_dict_items_iter_1 _))
 unfold Builtin.«dict_items.__iter__» Builtin.Dict_items.dictOf; refine wpAny_bind (wpAny_pure (wpAny_bind (wpAny_bind (wpAny_field g1 g3 (x:=.ref d) rfl (wpAny_pure (wpAny_bind ?_))))))
 unfold Builtin.Dict_items.newIterator; refine wpAny_bind (wpAny_dictEntries h1 h3 (wpAny_bind (wpAny_dictEpoch h1 h3 ?_)))
 simp only [show Builtin.Dict_items.ownsTuple "dict_itemiterator"=true from by decide,if_true]
 refine wpAny_newObj_type (wpAny_pure ⟨_,rfl,"dict_itemiterator",_,⟨_,Heap.get?_push_size _ rfl,rfl⟩,F.slot_dict_itemiterator_next.lookup,?_⟩) (by simp only [sizeOk,Builtin.Dict_items.ownedTupleFields,List.size_toArray,List.length_append,List.length_cons,List.length_nil,sizeLine_eq]; omega)
 simpa [rawInt,Builtin.Dict_items.ownedTupleFields] using hQ
theorem rl {i:Nat}{ok ov:Value}{Q:Option Value->Shared->Prop}(hit:IsItemIter s.heap it d i es.size ep ok ov)(r:Raw s.heap d es ep)(hi:i < es.size)
 (hQ:∀ h',IsItemIterOut h' it d (i + 1) es.size ep es[i].key es[i].val s.heap.objs.size->h'.get? s.heap.objs.size=some { cls:=.type "tuple",data:=.seq #[es[i].key,es[i].val] }->h'.objs.size=s.heap.objs.size + 1 →
  (∀ b o,b≠it->s.heap.get? b=some o->h'.get? b=some o)->Q (some (.ref s.heap.objs.size)) { s with heap:=h' }):wpAny (model prog w) A (pyNext (.ref it)) Q E s:=by
 obtain ⟨hp,g,dr,tk,os⟩:=s
 obtain ⟨o,h1,h2,h3⟩:=r.ex
 have hT:Shared.TypeIs ⟨hp,g,dr,tk,os⟩ (.ref it) "dict_itemiterator":=⟨_,hit,rfl⟩
 unfold pyNext; refine wpAny_bind (wpAny_attempt (wpAny_callSpecial?_slot (name:=Str.ofString "__next__") hT F.slot_dict_itemiterator_next (wpAny_call_entry F.slot_dict_itemiterator_next hT F.entry_dict_itemiterator_next ?_ (F.args_dict_itemiterator_next_1 _))))
 refine wpAny_bind (wpAny_pure (wpAny_bind (wpAny_bind ?_)))
 first | refine wpAny_bind (wpAny_typeNameOfWhole_itemiter hT (wpAny_pure (wpAny_bind (wpAny_fieldsOf hit rfl ?_)))) | refine wpAny_bind (wpAny_typeNameOf_itemiter hT (wpAny_pure (wpAny_bind (wpAny_fieldsOf hit rfl ?_))))
 simp only [show Builtin.Dict_items.ownsTuple "dict_itemiterator"=true from by decide,if_true]
 show wpAny _ _ (if (Value.ref d == Value.none)=true then _ else _) _ _ _; rw [if_neg (show ¬ ((Value.ref d == Value.none)=true) from Bool.false_ne_true)]
 refine wpAny_bind (wpAny_pure (wpAny_bind (wpAny_dictEntries h1 h3 ?_))); rw [if_neg (by simp)]
 refine wpAny_bind (wpAny_pure (wpAny_bind (wpAny_dictEpoch h1 h3 ?_))); rw [if_neg (by simp)]; refine wpAny_pure ?_
 simp only [show ¬ ((i:Int) < 0) from by omega,if_false,Int.toNat_natCast,Array.getElem?_eq_getElem hi]
 refine wpAny_bind ?_
 first | refine wpAny_bind (wpAny_typeNameOfWhole_itemiter hT (wpAny_pure (wpAny_bind (wpAny_isOneOf_itemiter hT ?_)))) | refine wpAny_bind (wpAny_typeNameOf_itemiter hT (wpAny_pure (wpAny_bind (wpAny_isOneOf_itemiter hT ?_))))
 show wpAny _ _ (setField (.ref it) 3 (rawInt ((i:Int) + 1)) >>= _) _ _ ⟨hp,g,dr,tk,os⟩; refine wpAny_bind (wpAny_setField_rec hit (by simp) fun k1 e1 (b1:Heap.SameBut it hp k1)=>?_)
 have q1:IsItemIter k1 it d (i + 1) es.size ep ok ov:=by
  unfold IsItemIter; rw [show ((i + 1:Nat):Int)=(i:Int) + 1 by omega]; simpa [rawInt] using e1
 have t1:Shared.TypeIs ⟨k1,g,dr,tk,os⟩ (.ref it) "dict_itemiterator":=⟨_,q1,rfl⟩
 refine wpAny_bind (wpAny_holding (wpAny_bind (wpAny_isOneOf_itemiter t1 (wpAny_bind (wpAny_isOneOf_itemiter t1 ?_)))))
 show wpAny _ _ (Builtin.Dict_items.pairFromOwner (.ref it) 6 es[i].key es[i].val) _ _ ⟨k1,g,dr,tk,os⟩; unfold Builtin.Dict_items.pairFromOwner; refine wpAny_bind (wpAny_newTuple ?_)
 have q2:IsItemIter (k1.push { cls:=.type "tuple",data:=.seq #[es[i].key,es[i].val] }) it d (i + 1) es.size ep ok ov:=Heap.get?_push_of_some _ q1
 have z1:k1.objs.size=hp.objs.size:=b1.1
 have ne:hp.objs.size≠it:=Nat.ne_of_gt (Heap.lt_size hit)
 have w2:(k1.push { cls:=.type "tuple",data:=.seq #[es[i].key,es[i].val] }).get? hp.objs.size=some { cls:=.type "tuple",data:=.seq #[es[i].key,es[i].val] }:=by rw [← z1]; exact Heap.get?_push_size _ rfl
 have z2:(k1.push { cls:=.type "tuple",data:=.seq #[es[i].key,es[i].val] }).objs.size=hp.objs.size + 1:=by rw [Heap.size_push,z1]
 have p2:∀ b o,b≠it->hp.get? b=some o->(k1.push { cls:=.type "tuple",data:=.seq #[es[i].key,es[i].val] }).get? b=some o:=fun b o hb e=>Heap.get?_push_of_some _ (b1.extBut b o hb e)
 show wpAny _ _ (Builtin.Dict_items.ownedTupleIsFree (.ref it) >>= _) _ _ ⟨k1.push { cls:=.type "tuple",data:=.seq #[es[i].key,es[i].val] },g,dr,tk,os⟩; rw [z1]
 generalize k1.push { cls:=.type "tuple",data:=.seq #[es[i].key,es[i].val] }=k2 at q2 w2 z2 p2 ⊢
 unfold Builtin.Dict_items.ownedTupleIsFree; refine wpAny_bind (wpAny_bind (wpAny_field q2 rfl (x:=.none) rfl (wpAny_pure ?_))); simp only [if_true]
 refine wpAny_bind (wpAny_field q2 rfl (x:=ok) rfl (wpAny_bind (wpAny_field q2 rfl (x:=ov) rfl (wpAny_bind (wpAny_setField_rec q2 (by simp) fun k3 e3 (b3:Heap.SameBut it k2 k3)=>?_)))))
 have q3:IsItemIter k3 it d (i + 1) es.size ep es[i].key ov:=e3
 refine wpAny_bind (wpAny_setField_rec q3 (by simp) fun k4 e4 (b4:Heap.SameBut it k3 k4)=>?_)
 have q4:IsItemIter k4 it d (i + 1) es.size ep es[i].key es[i].val:=e4
 refine wpAny_bind (wpAny_setField_rec q4 (by simp) fun k5 e5 (b5:Heap.SameBut it k4 k5)=>?_)
 have q5:IsItemIterOut k5 it d (i + 1) es.size ep es[i].key es[i].val hp.objs.size:=e5
 refine wpAny_bind (wpAny_setField_rec q5 (by simp) fun k6 e6 (b6:Heap.SameBut it k5 k6)=>?_)
 have q6:IsItemIterOut k6 it d (i + 1) es.size ep es[i].key es[i].val hp.objs.size:=e6
 have go:∀ b o,b≠it->k2.get? b=some o->k6.get? b=some o:=fun b o hb e=>b6.extBut b o hb (b5.extBut b o hb (b4.extBut b o hb (b3.extBut b o hb e)))
 exact wpAny_bind (wpAny_letGo (wpAny_pure (wpAny_pure ⟨_,rfl,wpAny_pure (hQ k6 q6 (go _ _ ne w2) (by show k6.objs.size=hp.objs.size + 1; rw [b6.1,b5.1,b4.1,b3.1,z2]) fun b o hb e=>go b o hb (p2 b o hb e))⟩)))
theorem uu {i:Nat}{ok ov:Value}{Q:Option Value->Shared->Prop}(hh:A.handled=none)(hit:IsItemIter s.heap it d i es.size ep ok ov)(r:Raw s.heap d es ep)(hi:es.size≤i)
 (hQ:∀ h',Heap.ExtBut it s.heap h'->Q none { s with heap:=h' }):wpAny (model prog w) A (pyNext (.ref it)) Q E s:=by
 obtain ⟨o,h1,h2,h3⟩:=r.ex
 have hT:s.TypeIs (.ref it) "dict_itemiterator":=⟨_,hit,rfl⟩
 unfold pyNext; refine wpAny_bind (wpAny_attempt (wpAny_callSpecial?_slot (name:=Str.ofString "__next__") hT F.slot_dict_itemiterator_next (wpAny_call_entry F.slot_dict_itemiterator_next hT F.entry_dict_itemiterator_next ?_ (F.args_dict_itemiterator_next_1 _))))
 refine wpAny_bind (wpAny_pure (wpAny_bind (wpAny_bind ?_)))
 first | refine wpAny_bind (wpAny_typeNameOfWhole_itemiter hT (wpAny_pure (wpAny_bind (wpAny_fieldsOf hit rfl ?_)))) | refine wpAny_bind (wpAny_typeNameOf_itemiter hT (wpAny_pure (wpAny_bind (wpAny_fieldsOf hit rfl ?_))))
 simp only [show Builtin.Dict_items.ownsTuple "dict_itemiterator"=true from by decide,if_true]
 show wpAny _ _ (if (Value.ref d == Value.none)=true then _ else _) _ _ _; rw [if_neg (show ¬ ((Value.ref d == Value.none)=true) from Bool.false_ne_true)]
 refine wpAny_bind (wpAny_pure (wpAny_bind (wpAny_dictEntries h1 h3 ?_))); rw [if_neg (by simp)]
 refine wpAny_bind (wpAny_pure (wpAny_bind (wpAny_dictEpoch h1 h3 ?_))); rw [if_neg (by simp)]; refine wpAny_pure ?_
 simp only [show ¬ ((i:Int) < 0) from by omega,if_false,Int.toNat_natCast,Array.getElem?_eq_none hi]
 refine wpAny_bind ?_
 first | refine wpAny_bind (wpAny_typeNameOfWhole_itemiter hT (wpAny_pure ?_)) | refine wpAny_bind (wpAny_typeNameOf_itemiter hT (wpAny_pure ?_))
 show wpAny _ _ (setField (.ref it) 2 .none >>= _) _ _ s; refine wpAny_bind (wpAny_setField hit rfl (by simp) ?_)
 show wpAny _ _ (newExc (.type "StopIteration") [] >>= _) _ _ _; refine wpAny_bind ?_; simp only [newExc,newTuple]
 refine wpAny_bind (wpAny_newObj_type (wpAny_bind (m:=firstArgMember _ _) (wpAny_of_eq (a:=Value.none) (by first | rfl | (simp only [firstArgMember]; rfl)) (wpAny_newObj_type ?_ (by size_fits)))) (by size_fits))
 simp only [raiseNew]; refine wpAny_bind (wpAny_handled ?_); rw [show A.in1.handled=none from hh]
 refine wpAny_bind (wpAny_pure (wpAny_throw ?_))
 refine wpAny_bind (wpAny_isInstance (T:="StopIteration") (b:=true) ⟨_,Heap.get?_push_size _ rfl,rfl⟩ isSubtype_stop ?_); exact wpAny_pure (hQ _ (((Heap.SameBut.update ..).extBut.push _).push _))
theorem vh {Q:Value->Shared->Prop}(r:Raw s.heap d es ep)(hd:(d == sysModules)=false)
 (hQ:Q (.ref s.heap.objs.size) { s with heap:=s.heap.push { cls:=.type "dict_keyiterator",data:=.fields #[.ref d,.int 0 0,.int es.size 0,.int ep 0] } }):wpAny (model prog w) A (pyIter (.ref d)) Q E s:=by
 obtain ⟨o,h1,h2,h3⟩:=r.ex
 refine wpAny_pyIter_slot r.ty F.slot_dict_iter (wpAny_call_entry F.slot_dict_iter r.ty F.entry_dict_iter ?_ (F.args_dict_iter_1 _))
 unfold Builtin.«dict.__iter__» Builtin.Dict.dictSlotNone; refine wpAny_bind (wpAny_bind (wpAny_notOrdered_dict r.ty (?_:wpAny _ _ (pure (Value.ref d)) _ _ s)))
 refine wpAny_pure ?_; show wpAny _ _ (Builtin.Dict.showsAll d >>= _) _ _ s; unfold Builtin.Dict.showsAll; rw [if_neg (by rw [hd]; exact Bool.false_ne_true)]
 refine wpAny_bind (wpAny_pure (wpAny_bind (wpAny_dictEntries h1 h3 (wpAny_bind (wpAny_dictEpoch h1 h3 (wpAny_bind (wpAny_newObj_type (wpAny_pure ⟨_,rfl,"dict_keyiterator",_,⟨_,Heap.get?_push_size _ rfl,rfl⟩,F.slot_dict_keyiterator_next.lookup,?_⟩))))))))
 simpa [rawInt] using hQ
theorem uD {i:Nat}{Q:Option Value->Shared->Prop}(hit:s.heap.IsKeyIter it d i es.size ep)(r:Raw s.heap d es ep)(hi:i < es.size)
 (hQ:∀ h',h'.IsKeyIter it d (i + 1) es.size ep->Heap.SameBut it s.heap h'->Q (some es[i].key) { s with heap:=h' }):wpAny (model prog w) A (pyNext (.ref it)) Q E s:=by
 obtain ⟨oi,g1,g2,g3⟩:=id hit
 obtain ⟨o,h1,h2,h3⟩:=r.ex
 have hT:=hit.typeIs
 unfold pyNext; refine wpAny_bind (wpAny_attempt (wpAny_callSpecial?_slot (name:=Str.ofString "__next__") hT F.slot_dict_keyiterator_next (wpAny_call_entry F.slot_dict_keyiterator_next hT F.entry_dict_keyiterator_next ?_ (F.args_dict_keyiterator_next_1 _))))
 refine wpAny_bind (wpAny_pure (wpAny_bind (wpAny_bind ?_)))
 first | refine wpAny_bind (wpAny_typeNameOfWhole_keyiter hT (wpAny_pure (wpAny_bind (wpAny_fieldsOf g1 g3 ?_)))) | refine wpAny_bind (wpAny_typeNameOf_keyiter hT (wpAny_pure (wpAny_bind (wpAny_fieldsOf g1 g3 ?_))))
 simp only [show Builtin.Dict_items.ownsTuple "dict_keyiterator"=false from by decide,Bool.false_eq_true,if_false]
 show wpAny _ _ (if (Value.ref d == Value.none)=true then _ else _) _ _ _; rw [if_neg (show ¬ ((Value.ref d == Value.none)=true) from Bool.false_ne_true)]
 refine wpAny_bind (wpAny_pure (wpAny_bind (wpAny_dictEntries h1 h3 ?_))); rw [if_neg (by simp)]
 refine wpAny_bind (wpAny_pure (wpAny_bind (wpAny_dictEpoch h1 h3 ?_))); rw [if_neg (by simp)]; refine wpAny_pure ?_
 simp only [show ¬ ((i:Int) < 0) from by omega,if_false,Int.toNat_natCast,Array.getElem?_eq_getElem hi]
 refine wpAny_bind ?_
 first | refine wpAny_bind (wpAny_typeNameOfWhole_keyiter hT (wpAny_pure (wpAny_bind (wpAny_isOneOf_keyiter hT ?_)))) | refine wpAny_bind (wpAny_typeNameOf_keyiter hT (wpAny_pure (wpAny_bind (wpAny_isOneOf_keyiter hT ?_))))
 show wpAny _ _ (setField (.ref it) 1 (rawInt ((i:Int) + 1)) >>= _) _ _ s; refine wpAny_bind (wpAny_setField g1 g3 (by simp) ?_)
 have q1:(s.heap.update it (Obj.mapFields (·.setIfInBounds 1 (rawInt ((i:Int) + 1))))).IsKeyIter it d (i + 1) es.size ep:=⟨_,Heap.get?_update_self _ g1 (Obj.isFreed_of_fields (Obj.data_mapFields g3 _)),(Obj.cls_mapFields ..).trans g2,by rw [Obj.data_mapFields g3]; simp [rawInt]⟩
 refine wpAny_bind (wpAny_holding (wpAny_bind (wpAny_isOneOf_keyiter (s:={ s with heap:=s.heap.update it (Obj.mapFields (·.setIfInBounds 1 (rawInt ((i:Int) + 1)))) }) q1.typeIs (?_:wpAny _ _ (pure es[i].key) _ _ _))))
 exact wpAny_pure (wpAny_pure ⟨_,rfl,wpAny_pure (hQ _ q1 (Heap.SameBut.update ..))⟩)
theorem wF {i:Nat}{Q:Option Value->Shared->Prop}(hh:A.handled=none)(hit:s.heap.IsKeyIter it d i es.size ep)(r:Raw s.heap d es ep)(hi:es.size≤i)
 (hQ:∀ h',Heap.ExtBut it s.heap h'->Q none { s with heap:=h' }):wpAny (model prog w) A (pyNext (.ref it)) Q E s:=by
 obtain ⟨oi,g1,g2,g3⟩:=id hit
 obtain ⟨o,h1,h2,h3⟩:=r.ex
 have hT:=hit.typeIs
 unfold pyNext; refine wpAny_bind (wpAny_attempt (wpAny_callSpecial?_slot (name:=Str.ofString "__next__") hT F.slot_dict_keyiterator_next (wpAny_call_entry F.slot_dict_keyiterator_next hT F.entry_dict_keyiterator_next ?_ (F.args_dict_keyiterator_next_1 _))))
 refine wpAny_bind (wpAny_pure (wpAny_bind (wpAny_bind ?_)))
 first | refine wpAny_bind (wpAny_typeNameOfWhole_keyiter hT (wpAny_pure (wpAny_bind (wpAny_fieldsOf g1 g3 ?_)))) | refine wpAny_bind (wpAny_typeNameOf_keyiter hT (wpAny_pure (wpAny_bind (wpAny_fieldsOf g1 g3 ?_))))
 simp only [show Builtin.Dict_items.ownsTuple "dict_keyiterator"=false from by decide,Bool.false_eq_true,if_false]
 show wpAny _ _ (if (Value.ref d == Value.none)=true then _ else _) _ _ _; rw [if_neg (show ¬ ((Value.ref d == Value.none)=true) from Bool.false_ne_true)]
 refine wpAny_bind (wpAny_pure (wpAny_bind (wpAny_dictEntries h1 h3 ?_))); rw [if_neg (by simp)]
 refine wpAny_bind (wpAny_pure (wpAny_bind (wpAny_dictEpoch h1 h3 ?_))); rw [if_neg (by simp)]; refine wpAny_pure ?_
 simp only [show ¬ ((i:Int) < 0) from by omega,if_false,Int.toNat_natCast,Array.getElem?_eq_none hi]
 refine wpAny_bind ?_
 first | refine wpAny_bind (wpAny_typeNameOfWhole_keyiter hT (wpAny_pure ?_)) | refine wpAny_bind (wpAny_typeNameOf_keyiter hT (wpAny_pure ?_))
 show wpAny _ _ (setField (.ref it) 0 .none >>= _) _ _ s; refine wpAny_bind (wpAny_setField g1 g3 (by simp) ?_)
 show wpAny _ _ (newExc (.type "StopIteration") [] >>= _) _ _ _; refine wpAny_bind ?_; simp only [newExc,newTuple]
 refine wpAny_bind (wpAny_newObj_type (wpAny_bind (m:=firstArgMember _ _) (wpAny_of_eq (a:=Value.none) (by first | rfl | (simp only [firstArgMember]; rfl)) (wpAny_newObj_type ?_ (by size_fits)))) (by size_fits))
 simp only [raiseNew]; refine wpAny_bind (wpAny_handled ?_); rw [show A.in1.handled=none from hh]
 refine wpAny_bind (wpAny_pure (wpAny_throw ?_))
 refine wpAny_bind (wpAny_isInstance (T:="StopIteration") (b:=true) ⟨_,Heap.get?_push_size _ rfl,rfl⟩ isSubtype_stop ?_); exact wpAny_pure (hQ _ (((Heap.SameBut.update ..).extBut.push _).push _))
end
end Dit
namespace L2
open PySem PySem.Spec PyProof.Rows PySem.W
abbrev oa (o:Obj)(kvs:List (List Key × V)):HO:=.frz o (.dT kvs)
def Eu (d:Addr)(o:Obj)(kvs:List (List Key × V)):It :=
 ⟨fun i H=>i < kvs.length∧H d=some (oa o kvs),fun i H x H'=>∃ p b k v,kvs[i]?=some (k,v)∧H p=none∧H b=some (.tup (k.map kV))∧x = .ref p∧H'=upd H p (.tup [.ref b,v]),fun i H=>kvs.length≤i∧H d=some (oa o kvs)⟩
def DZ (d:Addr)(o:Obj)(kvs:List (List Key × V)):It :=
 ⟨fun i H=>i < kvs.length∧H d=some (oa o kvs),fun i H x H'=>∃ b k v,kvs[i]?=some (k,v)∧H b=some (.tup (k.map kV))∧x = .ref b∧H'=H,fun i H=>kvs.length≤i∧H d=some (oa o kvs)⟩
theorem jD {α β:Type}{R:α->β->Prop}:∀ {l:List α}{m:List β}{i:Nat}{a:α},Paired R l m->l[i]?=some a->∃ b,m[i]?=some b∧R a b
 | _,_,_,_,.nil,e=>by simp at e
 | _,_,0,_,.cons r _,e=>by simp at e; subst e; exact ⟨_,rfl,r⟩
 | _,_,i + 1,a,.cons _ t,e=>by
   obtain ⟨b,h1,h2⟩:=jD (i:=i) (a:=a) t (by simpa using e)
   exact ⟨b,by simpa using h1,h2⟩
section
variable {X:Cx}{pins:List (Addr × Obj)}{σ:St}{H:Hp}{s:Shared}{d:Addr}{o:Obj}{kvs:List (List Key × V)}
theorem ix (I:Inv X pins σ H s)(e:H d=some (oa o kvs)):∃ es ep,o.data = .dict es ep∧Dit.Raw s.heap d es ep∧es.size=kvs.length∧(d == sysModules)=false ∧
 ∀ (i:Nat)(hi:i < es.size) k v,kvs[i]?=some (k,v)->∃ b,es[i].key = .ref b∧H b=some (.tup (k.map kV))∧aE v es[i].val:=by
 obtain ⟨h0,z,y,xs,r,o',es,ep,h1,h2,h3,h4,h5⟩:=(show bc X.prog X.w H s.heap d (oa o kvs) from I.hok d _ e)
 rw [h0] at h1
 cases h1
 have hl:es.size=kvs.length:=by
  rw [← Array.length_toList,h4,List.length_map]
  exact (Paired.length r).symm
 refine ⟨es,ep,h3,⟨_,h0,h2,h3⟩,hl,y,fun i hi k v hk=>?_⟩
 obtain ⟨q,hq,e1,e2,e3⟩:=jD r hk
 have z1:es.toList[i]?=some (entryOfKey (tupleKind (bX X.prog X.w)) q):=by rw [h4,List.getElem?_map,hq]; rfl
 have z2:es[i]=entryOfKey (tupleKind (bX X.prog X.w)) q:=by
  have z3:es.toList[i]?=some es[i]:=by simp [hi]
  rw [z3] at z1
  exact Option.some.inj z1
 rw [z2]
 exact ⟨q.2.1,rfl,e2,e3⟩
theorem Inv.freeze (I:Inv X pins σ H s)(e:H d=some (.dT kvs)):∃ o,s.heap.get? d=some o∧Inv X pins σ (upd H d (oa o kvs)) s:=by
 obtain ⟨z,y,xs,r,o,es,ep,h1,h2⟩:=(show bc X.prog X.w H s.heap d (.dT kvs) from I.hok d _ e)
 refine ⟨o,h1,I.write (t':=s.toks) (h':=s.heap) (x:=d) (e:=d) (o:=oa o kvs) (by rw [e]; exact True.intro) (.inl rfl) (fun _ _ _ q=>q) ⟨o,h1⟩ ⟨h1,z,y,xs,?_,o,es,ep,h1,h2⟩⟩
 exact Paired.mapP r fun p q w=>⟨w.1,by rw [aq (oV w.2.1 e (by intro z; cases z))]; exact w.2.1,w.2.2⟩
end
theorem qh {P:Program}{w:World}{K:Frag}{elts:List Expr}{x1:Nat}{tp:Pos}(d it:Addr)(o:Obj)(kvs:List (List Key × V))(es:Array DictEntry)(ep:Nat)(ho:o.data = .dict es ep):Turn P w K (.Tuple elts x1 tp) (Eu d o kvs) [it] it (fun i h=>∃ ok ov,IsItemIter h it d i es.size ep ok ov) where
 mem:=by simp
 obj:=fun i h st b hb=>by
  have e:b=it:=by simpa using hb
  subst e
  obtain ⟨ok,ov,e⟩:=st
  exact ⟨_,e,fun v z=>by cases z⟩
 keep:=fun i h h' st k=>let ⟨ok,ov,e⟩:=st; ⟨ok,ov,k it (by simp) _ e⟩
 item:=by
  intro X hP hw hK hc i pins s σ H E I hf st hg
  subst hP hw hK
  obtain ⟨hlt,hd⟩:=hg
  obtain ⟨ok,ov,hit⟩:=st
  obtain ⟨es',ep',ho',raw,hl,hm,hkv⟩:=ix I hd
  rw [ho] at ho'
  cases ho'
  obtain ⟨f0,f1,f2,f3,f4,f5⟩:=hf it (by simp)
  have hi:i < es.size:=by omega
  refine Dit.rl hit raw hi fun h' q1 q2 q3 q4=>?_
  obtain ⟨⟨k,v⟩,hk⟩:∃ kv,kvs[i]?=some kv:=⟨kvs[i],by simp [hlt]⟩
  obtain ⟨b,eb,hb,rv⟩:=hkv i hi k v hk
  refine ⟨_,rfl,wpAny_letOwnedTupleGo_items (s:={ s with heap:=h' }) q1 fun h2 q5 q6=>?_⟩
  have nit:s.heap.objs.size≠it:=Nat.ne_of_gt (Heap.lt_size hit)
  have I1:Inv X pins σ H { s with heap:=h2 }:=I.turned (t':=s.toks) (fun b o hb e=>(q6.2 b hb).trans (q4 b o hb e)) f0 f1 f3 f4 f5
  have tup:h2.get? s.heap.objs.size=some { cls:=.type "tuple",data:=.seq #[es[i].key,es[i].val] }:=(q6.2 _ nit).trans q2
  have fr:H s.heap.objs.size=none:=I.hok.fresh (Nat.le_refl _)
  have I2:Inv X pins σ (upd H s.heap.objs.size (.tup [.ref b,v])) { s with heap:=h2 }:=by
   refine ⟨I1.ok,I1.os,I1.bare,?_,I1.loc,I1.cell,?_,fun x c e=>?_,fun p hp=>?_,dj I1.hok fr ⟨by show 2≤sizeLine; decide,[.ref b,es[i].val],.cons rfl (.cons rv .nil),?_⟩,I1.len⟩
   ·have u:=I1.base
    refine ⟨u.keep,u.slot,fun b' o' e n hx=>?_,u.there,fun b' xs e=>?_,fun b' o' u' e=>?_,fun b' ps e=>?_⟩
    ·have ne:b'≠s.heap.objs.size:=Nat.ne_of_lt (Nat.lt_of_lt_of_le (Heap.lt_size e) I.sz)
     rw [aq ne]; exact u.free b' o' e n hx
    ·rw [aq (au (u.tups b' xs e) fr)]; exact u.tups b' xs e
    ·rw [aq (au (u.frzs b' o' u' e) fr)]; exact u.frzs b' o' u' e
    ·obtain ⟨m,q⟩:=u.tbls b' ps e
     exact ⟨m,by rw [aq (au q fr)]; exact q⟩
   ·rw [aq (Nat.ne_of_lt I.lt)]; exact I1.free
   ·obtain ⟨v',q⟩:=I.cell x c e
    rw [aq (Nat.ne_of_lt q.lt)]; exact I1.freeC x c e
   ·obtain ⟨e,n,r⟩:=I1.pin p hp
    have lt:p.1 < s.heap.objs.size:=Heap.lt_size (I.pin p hp).1
    exact ⟨e,by rw [aq (Nat.ne_of_lt lt)]; exact n,r⟩
   ·exact ⟨_,tup,rfl,0,by rw [← eb]⟩
  refine ⟨.ref s.heap.objs.size,_,I2,rfl,⟨s.heap.objs.size,b,k,v,hk,fr,hb,rfl,rfl⟩,⟨_,_,q5⟩,fun b' hb'=>?_⟩
  have e:b'=it:=by simpa using hb'
  subst e
  rw [aq (Ne.symm nit)]
  exact f0
 done:=by
  intro X hP hw hK hc i pins s σ H E I hf st hg
  subst hP hw hK
  obtain ⟨hlt,hd⟩:=hg
  obtain ⟨ok,ov,hit⟩:=st
  obtain ⟨es',ep',ho',raw,hl,hm,hkv⟩:=ix I hd
  rw [ho] at ho'
  cases ho'
  obtain ⟨f0,f1,f2,f3,f4,f5⟩:=hf it (by simp)
  exact Dit.uu (I.ok.hd hc) hit raw (by omega) fun h' eb=>⟨rfl,I.turned (t':=s.toks) (fun b o hb e=>eb b o hb e) f0 f1 f3 f4 f5⟩
 self:=fun A i s Q E st h=>by
  obtain ⟨ok,ov,hit⟩:=st
  exact kcp_self hit h
theorem vd {P:Program}{w:World}{K:Frag}{tg:Expr}(d it:Addr)(o:Obj)(kvs:List (List Key × V))(es:Array DictEntry)(ep:Nat)(ho:o.data = .dict es ep):Turn P w K tg (DZ d o kvs) [it] it (fun i h=>h.IsKeyIter it d i es.size ep) where
 mem:=by simp
 obj:=fun i h st b hb=>by
  have e:b=it:=by simpa using hb
  subst e
  obtain ⟨o,e,c,d⟩:=st
  exact ⟨o,e,fun v z=>by rw [d] at z; cases z⟩
 keep:=fun i h h' st k=>st.at fun o e=>k it (by simp) o e
 item:=by
  intro X hP hw hK hc i pins s σ H E I hf st hg
  subst hP hw hK
  obtain ⟨hlt,hd⟩:=hg
  obtain ⟨es',ep',ho',raw,hl,hm,hkv⟩:=ix I hd
  rw [ho] at ho'
  cases ho'
  obtain ⟨f0,f1,f2,f3,f4,f5⟩:=hf it (by simp)
  have hi:i < es.size:=by omega
  refine Dit.uD st raw hi fun h' q1 q2=>?_
  obtain ⟨⟨k,v⟩,hk⟩:∃ kv,kvs[i]?=some kv:=⟨kvs[i],by simp [hlt]⟩
  obtain ⟨b,eb,hb,rv⟩:=hkv i hi k v hk
  have I1:Inv X pins σ H { s with heap:=h' }:=I.turned (t':=s.toks) (fun b o hb e=>(q2.2 b hb).trans e) f0 f1 f3 f4 f5
  obtain ⟨oi,e,c,dd⟩:=id q1
  exact ⟨_,rfl,rM (s:={ s with heap:=h' }) e c dd (by decide) ⟨.ref b,H,I1,eb,⟨b,k,v,hk,hb,rfl,rfl⟩,q1,fun b hb=>(hf b hb).1⟩⟩
 done:=by
  intro X hP hw hK hc i pins s σ H E I hf st hg
  subst hP hw hK
  obtain ⟨hlt,hd⟩:=hg
  obtain ⟨es',ep',ho',raw,hl,hm,hkv⟩:=ix I hd
  rw [ho] at ho'
  cases ho'
  obtain ⟨f0,f1,f2,f3,f4,f5⟩:=hf it (by simp)
  exact Dit.wF (I.ok.hd hc) st raw (by omega) fun h' eb=>⟨rfl,I.turned (t':=s.toks) (fun b o hb e=>eb b o hb e) f0 f1 f3 f4 f5⟩
 self:=fun _ _ _ _ _ st h=>wpAny_pyIter_keyiter st h
def D7 (H1:Hp)(d:Addr)(kvs:List (List Key × V))(R:Obj->Hp->Prop):Prop:=(∃ o,H1 d=some (oa o kvs)∧R o H1)∨(H1 d=some (.dT kvs)∧∀ o,R o (upd H1 d (oa o kvs)))
def B5 (td:TE):TI:=fun σ H R=>td σ H fun x H1=>∃ d kvs,x = .ref d∧D7 H1 d kvs fun o H2=>R (Eu d o kvs) H2
def C5 (td:TE):TI:=fun σ H R=>td σ H fun x H1=>∃ d kvs,x = .ref d∧D7 H1 d kvs fun o H2=>R (DZ d o kvs) H2
section
variable {X:Cx}{pins:List (Addr × Obj)}{σ:St}{H:Hp}{s:Shared}
theorem xQ {d:Addr}{kvs:List (List Key × V)}{R:Obj->Hp->Prop}(I:Inv X pins σ H s)(h:D7 H d kvs R):∃ o H2,Inv X pins σ H2 s∧H2 d=some (oa o kvs)∧R o H2:=by
 rcases h with ⟨o,e,r⟩ | ⟨e,r⟩
 ·exact ⟨o,H,I,e,r⟩
 ·obtain ⟨o,_,I2⟩:=I.freeze e
  exact ⟨o,_,I2,ag,r o⟩
theorem yd {oe:Expr}{td:TE}{elts:List Expr}{x1:Nat}{tp apos cpos:Pos}(ho:PE X oe td)(hbase:attributeBase oe "items" X.env (eval oe X.env)=eval oe X.env:=by rfl)(hline:(apos.endLine == cpos.line)=true:=by rfl):
 PI X (.Tuple elts x1 tp) (.Call (.Attribute oe "items" apos) [] [] cpos) (B5 td):=by
 intro pins s σ H R I h
 refine wpAny_Call_method0_late hbase hline (bH (ho pins s σ H _ I h) fun v s1 ⟨x,H1,I1,r1,d,kvs,ex,fz⟩=>?_)
 subst ex
 cases (show v=Value.ref d from r1)
 obtain ⟨o,H2,I2,hd,rr⟩:=xQ I1 fz
 obtain ⟨es,ep,hod,raw,hl,hm,_⟩:=ix I2 hd
 refine ⟨"dict","dict.items",PySem.F.plainAttrs_dict,PySem.F.slot_dict_items,PySem.F.type_dict_items,raw.ty,fun a e=>?_,Calls.callWith_builtin rfl (PySem.evalArgs_none (Dit.qP raw hm ?_))⟩
 ·cases e
  obtain ⟨o',h1,h2,_⟩:=raw.ex
  exact ⟨o',h1,h2.2.1⟩
 ·have I3:Inv X pins σ H2 { s1 with heap:=s1.heap.push { cls:=.type "dict_items",data:=.fields #[.ref d] } }:=I2.kept (t':=s1.toks) fun b ob q=>Heap.get?_push_of_some _ q
  refine Dit.qz (s:={ s1 with heap:=s1.heap.push { cls:=.type "dict_items",data:=.fields #[.ref d] } }) ⟨_,Heap.get?_push_size _ rfl,rfl,rfl⟩ (raw.keep fun o e=>Heap.get?_push_of_some _ e) ?_
  generalize s1.heap.push { cls:=.type "dict_items",data:=.fields #[.ref d] }=h2 at I3 ⊢
  refine ⟨h2.objs.size,[h2.objs.size],_,Eu d o kvs,H2,rfl,I3.kept (t':=s1.toks) fun b ob q=>Heap.get?_push_of_some _ q,qh d _ o kvs es ep hod,⟨_,_,Heap.get?_push_size _ rfl⟩,fun b hb=>?_,rr⟩
  have e:b=h2.objs.size:=by simpa using hb
  subst e
  exact I3.fpOk (Nat.le_refl _) (I3.hok.fresh (Nat.le_refl _))
theorem yV {tg oe:Expr}{td:TE}(ho:PE X oe td):PI X tg oe (C5 td):=by
 intro pins s σ H R I h
 refine bH (ho pins s σ H _ I h) fun v s1 ⟨x,H1,I1,r1,d,kvs,ex,fz⟩=>?_
 subst ex
 cases (show v=Value.ref d from r1)
 obtain ⟨o,H2,I2,hd,rr⟩:=xQ I1 fz
 obtain ⟨es,ep,hod,raw,hl,hm,_⟩:=ix I2 hd
 refine Dit.vh raw hm ⟨s1.heap.objs.size,[s1.heap.objs.size],_,DZ d o kvs,H2,rfl,I2.kept (t':=s1.toks) fun b ob q=>Heap.get?_push_of_some _ q,vd d _ o kvs es ep hod,⟨_,Heap.get?_push_size _ rfl,rfl,rfl⟩,fun b hb=>?_,rr⟩
 have e:b=s1.heap.objs.size:=by simpa using hb
 subst e
 exact I2.fpOk (Nat.le_refl _) (I2.hok.fresh (Nat.le_refl _))
theorem Inv.tupAt {s2:Shared}{T:Addr}{xs:List V}{its:List Value}(I:Inv X pins σ H s)(I1:Inv X pins σ H s2)(hT:s.heap.objs.size≤T)(e:s2.heap.get? T=some { cls:=.type "tuple",data:=.seq its.toArray })(r:aG xs its)(hz:xs.length≤sizeLine):
 Inv X pins σ (upd H T (.tup xs)) s2:=by
 have fr:H T=none:=I.hok.fresh hT
 refine ⟨I1.ok,I1.os,I1.bare,?_,I1.loc,I1.cell,?_,fun x c e=>?_,fun p hp=>?_,dj I1.hok fr ⟨hz,its,r,⟨_,e,rfl,0,rfl⟩⟩,I1.len⟩
 ·have u:=I1.base
  refine ⟨u.keep,u.slot,fun b' o' e n hx=>?_,u.there,fun b' xs e=>?_,fun b' o' u' e=>?_,fun b' ps e=>?_⟩
  ·have ne:b'≠T:=Nat.ne_of_lt (Nat.lt_of_lt_of_le (Heap.lt_size e) (Nat.le_trans I.sz hT))
   rw [aq ne]; exact u.free b' o' e n hx
  ·rw [aq (au (u.tups b' xs e) fr)]; exact u.tups b' xs e
  ·rw [aq (au (u.frzs b' o' u' e) fr)]; exact u.frzs b' o' u' e
  ·obtain ⟨m,q⟩:=u.tbls b' ps e
   exact ⟨m,by rw [aq (au q fr)]; exact q⟩
 ·rw [aq (Nat.ne_of_lt (Nat.lt_of_lt_of_le I.lt hT))]; exact I1.free
 ·obtain ⟨v',q⟩:=I.cell x c e
  rw [aq (Nat.ne_of_lt (Nat.lt_of_lt_of_le q.lt hT))]; exact I1.freeC x c e
 ·obtain ⟨e,n,r⟩:=I1.pin p hp
  have lt:p.1 < s.heap.objs.size:=Heap.lt_size (I.pin p hp).1
  exact ⟨e,by rw [aq (Nat.ne_of_lt (Nat.lt_of_lt_of_le lt hT))]; exact n,r⟩
theorem Inv.turnedL {h':Heap}{t':Nat}{ch:List Addr}(I:Inv X pins σ H s)(k:∀ b o,b ∉ ch->s.heap.get? b=some o->h'.get? b=some o)(hf:∀ b∈ch,cQ X pins H b):Inv X pins σ H { s with heap:=h',toks:=t' }:=by
 have nit:∀ b u,H b=some u->b ∉ ch:=fun b u e z=>by rw [(hf b z).1] at e; cases e
 refine I.step (g':=s.gens) (d':=s.drawn) (ch:=ch) (fun b hb=>?_) (fun b o _ _ hc e _=>k b o hc e) (fun b o _ _ hc e _=>⟨o.slots,k b o hc e⟩) (fun _ _ _ _ n=>n)
  (fun b o hc e=>⟨o,k b o hc e⟩) (fun _ _ e=>e) (fun _ _ _ e=>e) (fun b ps e=>⟨#[],by rw [e]; simp⟩) (fun m hm=>?_) (fun b u e=>?_) I.bare
 ·obtain ⟨f0,f1,f2,f3,f4,f5⟩:=hf b hb
  exact ⟨f3,f1,f4,f5⟩
 ·obtain ⟨o,es,ep,ho,r⟩:=hm
  exact ⟨o,es,ep,k _ o (fun z=>(hf _ z).2.1 rfl) ho,r⟩
 ·refine (I.hok b u e).stay (fun c v hc q=>k c v ?_ q) (fun _ q=>q) fun _ _ q=>q
  rcases hc with z | z
  ·rw [z]; exact nit b u e
  ·exact nit c _ z
end
def DL (K:Frag)(a:Addr):It :=
 ⟨fun i H=>∃ xs x,br K H a xs∧xs[i]?=some x,fun i H x H'=>∃ T y,(∀ xs,br K H a xs->xs[i]?=some y)∧H T=none∧x = .ref T∧H'=upd H T (.tup [.int i,y]),fun i H=>∃ xs,br K H a xs∧xs.length≤i⟩
theorem vz {P:Program}{w:World}{K:Frag}{elts:List Expr}{x1:Nat}{tp:Pos}(a e it:Addr)(hne:e≠it):Turn P w K (.Tuple elts x1 tp) (DL K a) [e,it] e (fun i h=>∃ old,IsEnum h e it i old∧h.IsListIter it a i) where
 mem:=by simp
 obj:=fun i h st b hb=>by
  obtain ⟨old,h1,o,h2,_,h3⟩:=st
  rcases (by simpa using hb:b=e∨b=it) with z | z
  ·subst z
   exact ⟨_,h1,fun v z=>by cases z⟩
  ·subst z
   exact ⟨o,h2,fun v z=>by rw [h3] at z; cases z⟩
 keep:=fun i h h' st k=>let ⟨old,h1,h2⟩:=st; ⟨old,k e (by simp) _ h1,h2.at fun o q=>k it (by simp) o q⟩
 item:=by
  intro X hP hw hK hc i pins s σ H E I hf st hg
  subst hP hw hK
  obtain ⟨xs,x,hq,hx⟩:=hg
  obtain ⟨its,rv,p,hz⟩:=I.list hq
  obtain ⟨u,hu,ru⟩:=rv.get hx
  obtain ⟨old,he,hit⟩:=st
  refine wpAny_pyNext_enum_item he hit p.isList (x:=u) (by simpa using hu) hne fun h' q1 q2 q3 q4 q5=>?_
  refine ⟨_,rfl,wpAny_letOwnedTupleGo_enum (s:={ s with heap:=h',toks:=s.toks + 1 }) q1 fun h2 q6 q7=>?_⟩
  have nse:s.heap.objs.size≠e:=Nat.ne_of_gt (Heap.lt_size he)
  have I1:Inv X pins σ H { s with heap:=h2,toks:=s.toks + 1 }:=I.turnedL (t':=s.toks + 1) (ch:=[e,it]) (fun b o hb z=>by
   have hb':b≠e∧b≠it:=by simpa using hb
   exact (q7.2 b hb'.1).trans (q5 b o hb'.1 hb'.2 z)) hf
  have tup:h2.get? s.heap.objs.size=some { cls:=.type "tuple",data:=.seq #[.int i s.toks,u] }:=(q7.2 _ nse).trans q3
  have fr:H s.heap.objs.size=none:=I.hok.fresh (Nat.le_refl _)
  have I2:=I.tupAt (xs:=[.int i,x]) (its:=[.int i s.toks,u]) I1 (Nat.le_refl _) tup (.cons ⟨_,rfl⟩ (.cons ru .nil)) kQ
  refine ⟨.ref s.heap.objs.size,_,I2,rfl,⟨s.heap.objs.size,x,fun ys hy=>by rw [I.list_inj hy hq]; exact hx,fr,rfl,rfl⟩,⟨u,q6,q2.at fun o q=>(q7.2 _ (Ne.symm hne)).trans q⟩,fun b hb=>?_⟩
  have nb:b≠s.heap.objs.size:=by
   rcases (by simpa using hb:b=e∨b=it) with z | z
   ·subst z; exact Ne.symm nse
   ·subst z
    obtain ⟨o,q,_⟩:=hit
    exact Nat.ne_of_lt (Heap.lt_size q)
  rw [aq nb]
  exact (hf b hb).1
 done:=by
  intro X hP hw hK hc i pins s σ H E I hf st hg
  subst hP hw hK
  obtain ⟨xs,hq,hx⟩:=hg
  obtain ⟨its,rv,p,hz⟩:=I.list hq
  have hl:=rv.length
  obtain ⟨old,he,hit⟩:=st
  obtain ⟨f0,f1,f2,f3,f4,f5⟩:=hf it (by simp)
  exact wpAny_pyNext_enum_end (I.ok.hd hc) he hit p.isList (by simp; omega) fun h' eb=>⟨rfl,I.turned (t':=s.toks) (fun b o hb e=>eb b o hb e) f0 f1 f3 f4 f5⟩
 self:=fun _ _ _ _ _ st h=>let ⟨old,h1,_⟩:=st; wpAny_pyIter_enum h1 h
def DA (K:Frag)(tl:TE):TI:=fun σ H R=>cT tl tNil σ H fun vs H1=>∃ a xs,vs=[.ref a]∧br K H1 a xs∧R (DL K a) H1
theorem sv {X:Cx}{l:Expr}{tl:TE}{elts:List Expr}{x1:Nat}{tp p pos:Pos}(hl:PE X l tl)(hg:Gl X "enumerate")(hm:X.mg "enumerate"=none)(hs:fj l=false:=by rfl):
 PI X (.Tuple elts x1 tp) (.Call (.Name "enumerate" p) [l] [] pos) (DA X.K tl):=by
 intro pins s σ H R I h
 refine wpAny_Call_Name_kw (dm I hg hm (by rfl) ?_ (by decide) (by decide))
 refine PyProof.Rows.callWith_type1 (bH (aj hl ae hs pos pins s σ H _ I h) fun us s1 ⟨vs,H1,I1,r1,a,xs,hv,hq,rr⟩=>?_) (bu hs) rfl
 subst hv
 obtain ⟨u,rfl,ru⟩:=dH r1
 cases (show u=Value.ref a from ru)
 obtain ⟨its,rv,pl,hz⟩:=I1.list hq
 refine call_enumerate_list pl.isList fun h' q1 q2 q3 q4=>?_
 have I2:Inv X pins σ H1 { s1 with heap:=h' }:=I1.kept (t':=s1.toks) q4
 refine wpAny_pyIter_enum (s:={ s1 with heap:=h' }) q1 ?_
 refine ⟨s1.heap.objs.size + 1,[s1.heap.objs.size + 1,s1.heap.objs.size],_,DL X.K a,H1,rfl,I2,vz a _ _ (Nat.succ_ne_self _),⟨_,q1,q2⟩,fun b hb=>?_,rr⟩
 have hb':s1.heap.objs.size≤b:=by
  rcases (by simpa using hb:b=s1.heap.objs.size + 1∨b=s1.heap.objs.size) with z | z
  ·rw [z]; exact Nat.le_succ _
  ·rw [z]; exact Nat.le_refl _
 exact I1.fpOk hb' (I1.hok.fresh hb')
end L2
namespace Zp
open PySem PyProof.Rows
section
variable {prog:Program}{w:World}{A:Around}{E:Value->Shared->Prop}{s:Shared}
theorem ko {it t:Addr}{i:Nat}{items:Array Value}{x:Value}{Q:Value->Shared->Prop}(hit:s.heap.IsTupleIter it t i)(ht:s.heap.IsTuple t items)(hx:items[i]?=some x)
 (hQ:∀ h',h'.IsTupleIter it t (i + 1)->Heap.SameBut it s.heap h'->Q x { s with heap:=h' }):wpAny (model prog w) A (Builtin.SmallTypes.nextOf (.ref it)) Q E s:=by
 obtain ⟨o,ho,hc,hd⟩:=id hit
 obtain ⟨ol,hol,_,nl,hdl⟩:=ht
 unfold Builtin.SmallTypes.nextOf
 refine wpAny_bind (wpAny_callSpecial?_slot (name:=Str.ofString "__next__") hit.typeIs F.slot_tuple_iterator_next (wpAny_call_entry F.slot_tuple_iterator_next hit.typeIs F.entry_tuple_iterator_next ?_ (F.args_tuple_iterator_next_1 _)))
 show wpAny _ _ (field (.ref it) 0 >>= _) _ _ s
 refine wpAny_bind (wpAny_field ho hd (x:=.ref t) rfl ?_)
 show wpAny _ _ (if (Value.ref t == Value.none)=true then _ else _) _ _ s
 rw [if_neg (show ¬ ((Value.ref t == Value.none)=true) from Bool.false_ne_true)]
 show wpAny _ _ (field (.ref it) 1 >>= _) _ _ s
 refine wpAny_bind (wpAny_field ho hd (x:=.int i 0) rfl ?_)
 show wpAny _ _ (seqItems? (.ref t) >>= _) _ _ s
 refine wpAny_bind (wpAny_seqItems hol hdl ?_)
 simp only [Int.toNat_natCast,hx]
 refine wpAny_bind (wpAny_setField ho hd (by simp) (wpAny_pure ⟨x,rfl,wpAny_pure (hQ _ ?_ (Heap.SameBut.update ..))⟩))
 exact ⟨_,Heap.get?_update_self _ ho (Obj.isFreed_of_fields (Obj.data_mapFields hd _)),(Obj.cls_mapFields ..).trans hc,by rw [Obj.data_mapFields hd]; simp [rawInt]⟩
theorem si {it t:Addr}{i:Nat}{items:Array Value}{Q:Value->Shared->Prop}(hh:A.handled=none)(hit:s.heap.IsTupleIter it t i)(ht:s.heap.IsTuple t items)(hx:items[i]?=none)
 (hE:∀ h' e,Heap.ExtBut it s.heap h'->(∃ o,h'.get? e=some o∧o.cls = .type "StopIteration")->E (.ref e) { s with heap:=h' }):wpAny (model prog w) A (Builtin.SmallTypes.nextOf (.ref it)) Q E s:=by
 obtain ⟨o,ho,hc,hd⟩:=id hit
 obtain ⟨ol,hol,_,nl,hdl⟩:=ht
 unfold Builtin.SmallTypes.nextOf
 refine wpAny_bind (wpAny_callSpecial?_slot (name:=Str.ofString "__next__") hit.typeIs F.slot_tuple_iterator_next (wpAny_call_entry F.slot_tuple_iterator_next hit.typeIs F.entry_tuple_iterator_next ?_ (F.args_tuple_iterator_next_1 _)))
 show wpAny _ _ (field (.ref it) 0 >>= _) _ _ s
 refine wpAny_bind (wpAny_field ho hd (x:=.ref t) rfl ?_)
 show wpAny _ _ (if (Value.ref t == Value.none)=true then _ else _) _ _ s
 rw [if_neg (show ¬ ((Value.ref t == Value.none)=true) from Bool.false_ne_true)]
 show wpAny _ _ (field (.ref it) 1 >>= _) _ _ s
 refine wpAny_bind (wpAny_field ho hd (x:=.int i 0) rfl ?_)
 show wpAny _ _ (seqItems? (.ref t) >>= _) _ _ s
 refine wpAny_bind (wpAny_seqItems hol hdl ?_)
 simp only [Int.toNat_natCast,hx]
 refine wpAny_bind (wpAny_rule (wpAny_bind (wpAny_setField ho hd (by simp) ?_)))
 show wpAny _ _ (newExc (.type "StopIteration") [] >>= _) _ _ _
 refine wpAny_bind ?_
 simp only [newExc,newTuple]
 refine wpAny_bind (wpAny_newObj_type ?_ (by size_fits))
 refine wpAny_bind (m:=firstArgMember _ _) (wpAny_of_eq (a:=Value.none) (by first | rfl | (simp only [firstArgMember]; rfl)) ?_)
 refine wpAny_newObj_type ?_ (by size_fits)
 simp only [raiseNew]
 refine wpAny_bind (wpAny_handled ?_)
 first | rw [show A.in1.handled=none from hh] | rw [hh]
 refine wpAny_bind (wpAny_pure (wpAny_throw ?_))
 exact hE _ _ (((Heap.SameBut.update ..).extBut.push _).push _) ⟨_,Heap.get?_push_size _ rfl,rfl⟩
end
structure Apart (z TI TO i1 i2 l1 l2:Addr):Prop where
 TIz:TI≠z
 TOz:TO≠z
 i1z:i1≠z
 i2z:i2≠z
 TITO:TI≠TO
 TIi1:TI≠i1
 TIi2:TI≠i2
 TOi1:TO≠i1
 TOi2:TO≠i2
 i12:i1≠i2
 l1n:l1 ∉ [z,TO,i1,i2]
 l2n:l2 ∉ [z,TO,i1,i2]
structure Zs (h:Heap)(z TI TO i1 i2 l1 l2:Addr)(k:Nat):Prop where
 hz:IsZip h z TI TO .none
 hTI:IsPair h TI (.ref i1) (.ref i2)
 hTO:∃ a b,IsPair h TO a b
 h1:h.IsTupleIter i1 l1 k
 h2:h.IsTupleIter i2 l2 k
theorem fQ {h h':Heap}{i l:Addr}{k:Nat}(x:h.IsTupleIter i l k)(q:∀ o,h.get? i=some o->h'.get? i=some o):h'.IsTupleIter i l k:=let ⟨o,a,b⟩:=x; ⟨o,q o a,b⟩
section
variable {prog:Program}{w:World}{A:Around}{E:Value->Shared->Prop}{s:Shared}{z TI TO i1 i2 l1 l2:Addr}{k:Nat}{xs ys:Array Value}{x y:Value}
theorem item {Q:Value->Shared->Prop}(D:Apart z TI TO i1 i2 l1 l2)(Z:Zs s.heap z TI TO i1 i2 l1 l2 k)(hl1:s.heap.IsTuple l1 xs)(hl2:s.heap.IsTuple l2 ys)(hx:xs[k]?=some x)(hy:ys[k]?=some y)
 (hQ:∀ h',IsZip h' z TI TO (rawInt s.heap.objs.size)->(∃ a b,IsPair h' TO a b)->h'.IsTupleIter i1 l1 (k + 1)->h'.IsTupleIter i2 l2 (k + 1)->IsPair h' s.heap.objs.size x y →
  (∀ c o,c ∉ [z,TO,i1,i2]->s.heap.get? c=some o->h'.get? c=some o)->Q (.ref s.heap.objs.size) { s with heap:=h' }):
 wpAny (model prog w) A (Builtin.«zip.__next__» ⟨[.ref z],[]⟩) (fun fin s'=>∃ v,fin = .done (.ret v)∧Q v s') E s:=by
 obtain ⟨hz,hTI,⟨a,b,hTO⟩,h1,h2⟩:=Z
 have n1:l1≠z∧l1≠TO∧l1≠i1∧l1≠i2:=by simpa using D.l1n
 have n2:l2≠z∧l2≠TO∧l2≠i1∧l2≠i2:=by simpa using D.l2n
 show wpAny _ _ (field (.ref z) 2 >>= _) _ _ _
 refine wpAny_bind (wpAny_field hz rfl (x:=.bool false) rfl ?_)
 show wpAny _ _ (field (.ref z) 3 >>= _) _ _ _
 refine wpAny_bind (wpAny_field hz rfl (x:=.ref TI) rfl ?_)
 refine wpAny_bind (wpAny_seqItems hTI rfl ?_)
 show wpAny _ _ (Builtin.SmallTypes.ownedTupleIsFree (.ref z) >>= _) _ _ _
 refine wpAny_bind ?_
 unfold Builtin.SmallTypes.ownedTupleIsFree
 refine wpAny_bind (wpAny_field hz rfl (x:=.none) rfl (wpAny_pure ?_))
 simp only [if_true]
 refine wpAny_bind (wpAny_rule ?_)
 refine wpAny_bind (wpAny_field hz rfl (x:=.ref TO) rfl ?_)
 refine wpAny_bind (wpAny_setField_rec hz (by simp) fun g1 hz1 s1=>?_)
 replace hz1:IsZip g1 z TI TO .ellipsis:=hz1
 refine wpAny_bind ?_
 simp only [List.zipIdx_cons,List.zipIdx_nil,List.forIn_cons,List.forIn_nil]
 refine wpAny_bind (wpAny_bind (wpAny_onRaise ?_))
 show wpAny _ _ (Builtin.SmallTypes.nextOf (.ref i1) >>= _) _ _ _
 refine wpAny_bind (ko (h1.extBut s1.extBut D.i1z) (hl1.extBut s1.extBut n1.1) hx fun g2 a2 s2=>wpAny_pure ?_)
 have t2:IsPair g2 TO a b:=s2.extBut _ _ D.TOi1 (s1.extBut _ _ D.TOz hTO)
 refine wpAny_bind (wpAny_seqItems t2 rfl ?_)
 refine wpAny_bind (wpAny_updateSeq_pair t2 fun g3 t3 s3=>?_)
 replace t3:IsPair g3 TO x b:=t3
 refine wpAny_bind (wpAny_letGo (wpAny_pure ?_))
 refine wpAny_bind (wpAny_bind (wpAny_onRaise ?_))
 show wpAny _ _ (Builtin.SmallTypes.nextOf (.ref i2) >>= _) _ _ _
 refine wpAny_bind (ko (((h2.extBut s1.extBut D.i2z).extBut s2.extBut D.i12.symm).extBut s3.extBut D.TOi2.symm) (((hl2.extBut s1.extBut n2.1).extBut s2.extBut n2.2.2.1).extBut s3.extBut n2.2.1) hy fun g4 a4 s4=>wpAny_pure ?_)
 have t4:IsPair g4 TO x b:=s4.extBut _ _ D.TOi2 t3
 refine wpAny_bind (wpAny_seqItems t4 rfl ?_)
 refine wpAny_bind (wpAny_updateSeq_pair t4 fun g5 t5 s5=>?_)
 replace t5:IsPair g5 TO x y:=t5
 refine wpAny_bind (wpAny_letGo (wpAny_pure (wpAny_pure ?_)))
 refine wpAny_bind (wpAny_seqItems t5 rfl ?_)
 refine wpAny_bind (wpAny_newTuple ?_)
 have sz:g5.objs.size=s.heap.objs.size:=by rw [s5.1,s4.1,s3.1,s2.1,s1.1]
 have z5:IsZip g5 z TI TO .ellipsis:=s5.extBut _ _ D.TOz.symm (s4.extBut _ _ D.i2z.symm (s3.extBut _ _ D.TOz.symm (s2.extBut _ _ D.i1z.symm hz1)))
 have k5:∀ c o,c ∉ [z,TO,i1,i2]->s.heap.get? c=some o->g5.get? c=some o:=fun c o hc e=>by
  have hc':c≠z∧c≠TO∧c≠i1∧c≠i2:=by simpa using hc
  exact s5.extBut _ _ hc'.2.1 (s4.extBut _ _ hc'.2.2.2 (s3.extBut _ _ hc'.2.1 (s2.extBut _ _ hc'.2.2.1 (s1.extBut _ _ hc'.1 e))))
 have a5:g5.IsTupleIter i1 l1 (k + 1):=((a2.extBut s3.extBut D.TOi1.symm).extBut s4.extBut D.i12).extBut s5.extBut D.TOi1.symm
 have b5:g5.IsTupleIter i2 l2 (k + 1):=a4.extBut s5.extBut D.TOi2.symm
 have zlt:z < g5.objs.size:=Heap.lt_size z5
 show wpAny _ _ (Builtin.SmallTypes.ownedTupleHandOut (.ref z) (.ref g5.objs.size) >>= _) _ _ _
 refine wpAny_bind ?_
 unfold Builtin.SmallTypes.ownedTupleHandOut
 have z6:IsZip (g5.push { cls:=.type "tuple",data:=.seq #[x,y] }) z TI TO .ellipsis:=Heap.get?_push_of_some _ z5
 refine wpAny_bind (wpAny_setField_rec z6 (by simp) fun g7 z7 s7=>?_)
 replace z7:IsZip g7 z TI TO (rawInt g5.objs.size):=z7
 refine wpAny_setField_rec z7 (by simp) fun g8 z8 s8=>?_
 replace z8:IsZip g8 z TI TO (rawInt g5.objs.size):=z8
 have up:∀ c o,c≠z->g5.get? c=some o->g8.get? c=some o:=fun c o c1 e=>s8.extBut _ _ c1 (s7.extBut _ _ c1 (Heap.get?_push_of_some _ e))
 have t8:IsPair g8 g5.objs.size x y:=s8.extBut _ _ (Nat.ne_of_gt zlt) (s7.extBut _ _ (Nat.ne_of_gt zlt) (Heap.get?_push_size _ rfl))
 rw [sz] at z8 t8
 refine wpAny_pure ⟨_,rfl,?_⟩
 show Q (.ref g5.objs.size) _
 rw [sz]
 exact hQ g8 z8 ⟨x,y,up _ _ D.TOz t5⟩ (fQ a5 fun o e=>up _ o D.i1z e) (fQ b5 fun o e=>up _ o D.i2z e) t8 fun c o hc e=>up c o (fun q=>hc (by simp [q])) (k5 c o hc e)
theorem EH {Q:Fin->Shared->Prop}(hh:A.handled=none)(D:Apart z TI TO i1 i2 l1 l2)(Z:Zs s.heap z TI TO i1 i2 l1 l2 k)(hl1:s.heap.IsTuple l1 xs)(hl2:s.heap.IsTuple l2 ys)(hend:xs[k]?=none∨ys[k]?=none)
 (hE:∀ h' e,(∀ c o,c ∉ [z,TO,i1,i2]->s.heap.get? c=some o->h'.get? c=some o)->(∃ o,h'.get? e=some o∧o.cls = .type "StopIteration")->E (.ref e) { s with heap:=h' }):
 wpAny (model prog w) A (Builtin.«zip.__next__» ⟨[.ref z],[]⟩) Q E s:=by
 obtain ⟨hz,hTI,⟨a,b,hTO⟩,h1,h2⟩:=Z
 have n1:l1≠z∧l1≠TO∧l1≠i1∧l1≠i2:=by simpa using D.l1n
 have n2:l2≠z∧l2≠TO∧l2≠i1∧l2≠i2:=by simpa using D.l2n
 show wpAny _ _ (field (.ref z) 2 >>= _) _ _ _
 refine wpAny_bind (wpAny_field hz rfl (x:=.bool false) rfl ?_)
 show wpAny _ _ (field (.ref z) 3 >>= _) _ _ _
 refine wpAny_bind (wpAny_field hz rfl (x:=.ref TI) rfl ?_)
 refine wpAny_bind (wpAny_seqItems hTI rfl ?_)
 show wpAny _ _ (Builtin.SmallTypes.ownedTupleIsFree (.ref z) >>= _) _ _ _
 refine wpAny_bind ?_
 unfold Builtin.SmallTypes.ownedTupleIsFree
 refine wpAny_bind (wpAny_field hz rfl (x:=.none) rfl (wpAny_pure ?_))
 simp only [if_true]
 refine wpAny_bind (wpAny_rule ?_)
 refine wpAny_bind (wpAny_field hz rfl (x:=.ref TO) rfl ?_)
 refine wpAny_bind (wpAny_setField_rec hz (by simp) fun g1 hz1 s1=>?_)
 replace hz1:IsZip g1 z TI TO .ellipsis:=hz1
 refine wpAny_bind ?_
 simp only [List.zipIdx_cons,List.zipIdx_nil,List.forIn_cons,List.forIn_nil]
 refine wpAny_bind (wpAny_bind (wpAny_onRaise ?_))
 show wpAny _ _ (Builtin.SmallTypes.nextOf (.ref i1) >>= _) _ _ _
 cases hx:xs[k]? with
 | none =>
   refine wpAny_bind (si hh (h1.extBut s1.extBut D.i1z) (hl1.extBut s1.extBut n1.1) hx fun g2 e s2 he=>?_)
   obtain ⟨oe,hoe,hce⟩:=he
   have z2:IsZip g2 z TI TO .ellipsis:=s2 _ _ D.i1z.symm hz1
   have ez:e≠z:=fun q=>by subst q; rw [z2] at hoe; cases hoe; simp at hce
   refine wpAny_setField_rec z2 (by simp) fun g3 _ s3=>hE g3 e (fun c o hc q=>?_) ⟨oe,s3.extBut _ _ ez hoe,hce⟩
   have hc':c≠z∧c≠TO∧c≠i1∧c≠i2:=by simpa using hc
   exact s3.extBut _ _ hc'.1 (s2 _ _ hc'.2.2.1 (s1.extBut _ _ hc'.1 q))
 | some x =>
   have hy:ys[k]?=none:=by
    rcases hend with h | h
    ·rw [hx] at h; cases h
    ·exact h
   refine wpAny_bind (ko (h1.extBut s1.extBut D.i1z) (hl1.extBut s1.extBut n1.1) hx fun g2 a2 s2=>wpAny_pure ?_)
   have t2:IsPair g2 TO a b:=s2.extBut _ _ D.TOi1 (s1.extBut _ _ D.TOz hTO)
   refine wpAny_bind (wpAny_seqItems t2 rfl ?_)
   refine wpAny_bind (wpAny_updateSeq_pair t2 fun g3 t3 s3=>?_)
   refine wpAny_bind (wpAny_letGo (wpAny_pure ?_))
   refine wpAny_bind (wpAny_bind (wpAny_onRaise ?_))
   show wpAny _ _ (Builtin.SmallTypes.nextOf (.ref i2) >>= _) _ _ _
   refine wpAny_bind (si hh (((h2.extBut s1.extBut D.i2z).extBut s2.extBut D.i12.symm).extBut s3.extBut D.TOi2.symm) (((hl2.extBut s1.extBut n2.1).extBut s2.extBut n2.2.2.1).extBut s3.extBut n2.2.1) hy fun g4 e s4 he=>?_)
   obtain ⟨oe,hoe,hce⟩:=he
   have z4:IsZip g4 z TI TO .ellipsis:=s4 _ _ D.i2z.symm (s3.extBut _ _ D.TOz.symm (s2.extBut _ _ D.i1z.symm hz1))
   have ez:e≠z:=fun q=>by subst q; rw [z4] at hoe; cases hoe; simp at hce
   refine wpAny_setField_rec z4 (by simp) fun g5 _ s5=>hE g5 e (fun c o hc q=>?_) ⟨oe,s5.extBut _ _ ez hoe,hce⟩
   have hc':c≠z∧c≠TO∧c≠i1∧c≠i2:=by simpa using hc
   exact s5.extBut _ _ hc'.1 (s4 _ _ hc'.2.2.2 (s3.extBut _ _ hc'.2.1 (s2.extBut _ _ hc'.2.2.1 (s1.extBut _ _ hc'.1 q))))
theorem vm {Q:Option Value->Shared->Prop}(D:Apart z TI TO i1 i2 l1 l2)(Z:Zs s.heap z TI TO i1 i2 l1 l2 k)(hl1:s.heap.IsTuple l1 xs)(hl2:s.heap.IsTuple l2 ys)(hx:xs[k]?=some x)(hy:ys[k]?=some y)
 (hQ:∀ h',IsZip h' z TI TO (rawInt s.heap.objs.size)->(∃ a b,IsPair h' TO a b)->h'.IsTupleIter i1 l1 (k + 1)->h'.IsTupleIter i2 l2 (k + 1)->IsPair h' s.heap.objs.size x y →
  (∀ c o,c ∉ [z,TO,i1,i2]->s.heap.get? c=some o->h'.get? c=some o)->Q (some (.ref s.heap.objs.size)) { s with heap:=h' }):
 wpAny (model prog w) A (pyNext (.ref z)) Q E s:=by
 have hT:s.TypeIs (.ref z) "zip":=⟨_,Z.hz,rfl⟩
 unfold pyNext
 exact wpAny_bind (wpAny_attempt (wpAny_callSpecial?_slot (name:=Str.ofString "__next__") hT F.slot_zip_next
  (wpAny_call_entry F.slot_zip_next hT F.entry_zip_next (item D Z hl1 hl2 hx hy fun h' a1 a2 a3 a4 a5 a6=>wpAny_pure (hQ h' a1 a2 a3 a4 a5 a6)) (F.args_zip_next_1 _))))
theorem va {Q:Option Value->Shared->Prop}(hh:A.handled=none)(D:Apart z TI TO i1 i2 l1 l2)(Z:Zs s.heap z TI TO i1 i2 l1 l2 k)(hl1:s.heap.IsTuple l1 xs)(hl2:s.heap.IsTuple l2 ys)(hend:xs[k]?=none∨ys[k]?=none)
 (hQ:∀ h',(∀ c o,c ∉ [z,TO,i1,i2]->s.heap.get? c=some o->h'.get? c=some o)->Q none { s with heap:=h' }):wpAny (model prog w) A (pyNext (.ref z)) Q E s:=by
 have hT:s.TypeIs (.ref z) "zip":=⟨_,Z.hz,rfl⟩
 unfold pyNext
 refine wpAny_bind (wpAny_attempt (wpAny_callSpecial?_slot (name:=Str.ofString "__next__") hT F.slot_zip_next
  (wpAny_call_entry F.slot_zip_next hT F.entry_zip_next (EH hh D Z hl1 hl2 hend fun h' e hk he=>?_) (F.args_zip_next_1 _))))
 obtain ⟨o,ho,hc⟩:=he
 refine wpAny_bind (wpAny_isInstance (T:="StopIteration") (b:=true) ⟨o,ho,hc⟩ isSubtype_stop ?_)
 exact wpAny_pure (hQ _ hk)
end
abbrev g1 (h:Heap)(l1:Addr):Heap:=h.push { cls:=.type "tuple_iterator",data:=.fields #[.ref l1,.int 0 0] }
abbrev g2 (h:Heap)(l1 l2:Addr):Heap:=(g1 h l1).push { cls:=.type "tuple_iterator",data:=.fields #[.ref l2,.int 0 0] }
abbrev g3 (h:Heap)(l1 l2:Addr):Heap:=(g2 h l1 l2).push { cls:=.type "tuple",data:=.seq #[.ref h.objs.size,.ref (g1 h l1).objs.size] }
abbrev g4 (h:Heap)(l1 l2:Addr):Heap:=(g3 h l1 l2).push { cls:=.type "tuple",data:=.seq #[.none,.none] }
abbrev g5 (h:Heap)(l1 l2:Addr):Heap:=(g4 h l1 l2).push { cls:=.type "zip",data:=.fields #[.none,.bool false,.bool false,.ref (g2 h l1 l2).objs.size,.ref (g3 h l1 l2).objs.size] }
theorem uG (l1 l2:Addr)(xs ys:Array Value):
 Meets (Builtin.«zip.__new__» ⟨[.type "zip",.ref l1,.ref l2],[]⟩) (fun _ R s=>s.heap.IsTuple l1 xs∧s.heap.IsTuple l2 ys∧R (.ok (.ret (.ref (g4 s.heap l1 l2).objs.size))) { s with heap:=g5 s.heap l1 l2 }):=
 .of_wp fun prog w A R s h=>by
  obtain ⟨hp,g,d,tk,os⟩:=s; obtain ⟨hl1,hl2,h⟩:=h
  have hsub:=sub_zip
  have hL1:Heap.IsTuple (Shared.heap ⟨hp,g,d,tk,os⟩) l1 xs:=hl1
  have hL2:Heap.IsTuple (Shared.heap ⟨hp.push { cls:=.type "tuple_iterator",data:=.fields #[.ref l1,.int 0 0] },g,d,tk,os⟩) l2 ys:=Heap.IsTuple.push hl2 _
  wp_walk using wpAny_pyIter_tuple hL1,wpAny_pyIter_tuple hL2
  exact ⟨_,rfl,h⟩
section
variable {prog:Program}{w:World}{A:Around}{E:Value->Shared->Prop}{s:Shared}
theorem CD {l1 l2:Addr}{xs ys:Array Value}{Q:Value->Shared->Prop}(hl1:s.heap.IsTuple l1 xs)(hl2:s.heap.IsTuple l2 ys)
 (h:∀ h',Zs h' (s.heap.objs.size + 4) (s.heap.objs.size + 2) (s.heap.objs.size + 3) s.heap.objs.size (s.heap.objs.size + 1) l1 l2 0->(∀ c o,s.heap.get? c=some o->h'.get? c=some o)->Q (.ref (s.heap.objs.size + 4)) { s with heap:=h' }):
 wpAny (model prog w) A (call (.type "zip") [.ref l1,.ref l2]) Q E s:=by
 refine callType_new F.called_zip (by decide) (F.typeCall_zip_2 _ _) (F.newCall_zip_2 _ _) (fun obj=>F.args_object_init_3 obj _ _) F.entry_zip_new (uG l1 l2 xs ys) ⟨hl1,hl2,?_⟩
 have z1:(g1 s.heap l1).objs.size=s.heap.objs.size + 1:=Heap.size_push ..
 have z2:(g2 s.heap l1 l2).objs.size=s.heap.objs.size + 2:=by rw [Heap.size_push,z1]
 have z3:(g3 s.heap l1 l2).objs.size=s.heap.objs.size + 3:=by rw [Heap.size_push,z2]
 have z4:(g4 s.heap l1 l2).objs.size=s.heap.objs.size + 4:=by rw [Heap.size_push,z3]
 have q5:(g5 s.heap l1 l2).get? (g4 s.heap l1 l2).objs.size=some _:=Heap.get?_push_size _ rfl
 have q4:(g5 s.heap l1 l2).get? (g3 s.heap l1 l2).objs.size=some _:=Heap.get?_push_of_some _ (Heap.get?_push_size _ rfl)
 have q3:(g5 s.heap l1 l2).get? (g2 s.heap l1 l2).objs.size=some _:=Heap.get?_push_of_some _ (Heap.get?_push_of_some _ (Heap.get?_push_size _ rfl))
 have q2:(g5 s.heap l1 l2).get? (g1 s.heap l1).objs.size=some _:=Heap.get?_push_of_some _ (Heap.get?_push_of_some _ (Heap.get?_push_of_some _ (Heap.get?_push_size _ rfl)))
 have q1:(g5 s.heap l1 l2).get? s.heap.objs.size=some _:=Heap.get?_push_of_some _ (Heap.get?_push_of_some _ (Heap.get?_push_of_some _ (Heap.get?_push_of_some _ (Heap.get?_push_size _ rfl))))
 show _∧_
 rw [z2,z3,z4] at q5
 rw [z1,z2] at q3
 rw [z3] at q4
 rw [z1] at q2
 rw [z4]
 exact ⟨⟨_,q5,rfl⟩,h _ ⟨q5,q3,⟨_,_,q4⟩,⟨_,q1,rfl,rfl⟩,⟨_,q2,rfl,rfl⟩⟩ fun c o e=>Heap.get?_push_of_some _ (Heap.get?_push_of_some _ (Heap.get?_push_of_some _ (Heap.get?_push_of_some _ (Heap.get?_push_of_some _ e))))⟩
end
theorem ck {a b:Nat}(h:a≠b):(a:Addr)≠b:=h
theorem yA (n a b:Nat)(ha:a < n)(hb:b < n):Apart (n + 4) (n + 2) (n + 3) n (n + 1) a b:=by
 refine ⟨ck ?_,ck ?_,ck ?_,ck ?_,ck ?_,ck ?_,ck ?_,ck ?_,ck ?_,ck ?_,?_,?_⟩
 any_goals omega
 ·simp only [List.mem_cons,List.not_mem_nil,or_false,not_or]
  exact ⟨ck (by omega),ck (by omega),ck (by omega),ck (by omega)⟩
 ·simp only [List.mem_cons,List.not_mem_nil,or_false,not_or]
  exact ⟨ck (by omega),ck (by omega),ck (by omega),ck (by omega)⟩
end Zp
namespace L2
open PySem PySem.Spec PyProof.Rows PySem.W
def DM (K:Frag)(a b:Addr):It :=
 ⟨fun i H=>∃ xs ys x y,bf K H a xs∧bf K H b ys∧xs[i]?=some x∧ys[i]?=some y,
  fun i H v H'=>∃ T x y,(∀ xs,bf K H a xs->xs[i]?=some x)∧(∀ ys,bf K H b ys->ys[i]?=some y)∧H T=none∧v = .ref T∧H'=upd H T (.tup [x,y]),
  fun i H=>∃ xs ys,bf K H a xs∧bf K H b ys∧(xs.length≤i∨ys.length≤i)⟩
theorem xq {P:Program}{w:World}{K:Frag}{elts:List Expr}{x1:Nat}{tp:Pos}{a b z TI TO i1 i2:Addr}(D:Zp.Apart z TI TO i1 i2 a b):
 Turn P w K (.Tuple elts x1 tp) (DM K a b) [z,TO,i1,i2,TI] z (fun i h=>Zp.Zs h z TI TO i1 i2 a b i) where
 mem:=by simp
 obj:=fun i h st c hb=>by
  obtain ⟨h1,h2,⟨_,_,h3⟩,⟨o4,h4,_,d4⟩,⟨o5,h5,_,d5⟩⟩:=st
  rcases (by simpa using hb:c=z∨c=TO∨c=i1∨c=i2∨c=TI) with q | q | q | q | q
  ·subst q; exact ⟨_,h1,fun v q=>by cases q⟩
  ·subst q; exact ⟨_,h3,fun v q=>by cases q⟩
  ·subst q; exact ⟨_,h4,fun v q=>by rw [d4] at q; cases q⟩
  ·subst q; exact ⟨_,h5,fun v q=>by rw [d5] at q; cases q⟩
  ·subst q; exact ⟨_,h2,fun v q=>by cases q⟩
 keep:=fun i h h' st k=>by
  obtain ⟨h1,h2,⟨_,_,h3⟩,h4,h5⟩:=st
  exact ⟨k z (by simp) _ h1,k TI (by simp) _ h2,⟨_,_,k TO (by simp) _ h3⟩,Zp.fQ h4 fun o q=>k i1 (by simp) o q,Zp.fQ h5 fun o q=>k i2 (by simp) o q⟩
 item:=by
  intro X hP hw hK hc i pins s σ H E I hf st hg
  subst hP hw hK
  obtain ⟨xs,ys,x,y,hq,hr,hx,hy⟩:=hg
  obtain ⟨its,rv,p,hz⟩:=I.tuple hq
  obtain ⟨jts,rw',p',hz'⟩:=I.tuple hr
  obtain ⟨u,hu,ru⟩:=rv.get hx
  obtain ⟨v,hv,ru'⟩:=rw'.get hy
  refine Zp.vm D st (show s.heap.IsTuple a its.toArray from p) (show s.heap.IsTuple b jts.toArray from p') (x:=u) (y:=v) (by simpa using hu) (by simpa using hv) fun h' q1 q2 q3 q4 q5 q6=>?_
  refine ⟨_,rfl,wpAny_letOwnedTupleGo_zip (s:={ s with heap:=h' }) q1 fun h2 q7 q8=>?_⟩
  have lt:∀ c o,s.heap.get? c=some o->c≠s.heap.objs.size:=fun c o e=>Nat.ne_of_lt (Heap.lt_size e)
  have I1:Inv X pins σ H { s with heap:=h2 }:=I.turnedL (t':=s.toks) (ch:=[z,TO,i1,i2]) (fun c o hc e=>(q8.2 c fun q=>hc (by simp [q])).trans (q6 c o hc e)) fun c hc=>hf c (by
   rcases (by simpa using hc:c=z∨c=TO∨c=i1∨c=i2) with q | q | q | q <;> simp [q])
  have nz:s.heap.objs.size≠z:=Ne.symm (lt z _ st.hz)
  have tup:h2.get? s.heap.objs.size=some { cls:=.type "tuple",data:=.seq #[u,v] }:=(q8.2 _ nz).trans q5
  have fr:H s.heap.objs.size=none:=I.hok.fresh (Nat.le_refl _)
  have I2:=I.tupAt (xs:=[x,y]) (its:=[u,v]) I1 (Nat.le_refl _) tup (.cons ru (.cons ru' .nil)) kQ
  have up:∀ c o,c≠z->h'.get? c=some o->h2.get? c=some o:=fun c o hc e=>(q8.2 c hc).trans e
  obtain ⟨aa,bb,q2⟩:=q2
  have hTI':IsPair h' TI (.ref i1) (.ref i2):=q6 TI _ (by simp only [List.mem_cons,List.not_mem_nil,or_false,not_or]; exact ⟨D.TIz,D.TITO,D.TIi1,D.TIi2⟩) st.hTI
  refine ⟨.ref s.heap.objs.size,_,I2,rfl,⟨s.heap.objs.size,x,y,fun zs hy'=>by rw [I.tuple_inj hy' hq]; exact hx,fun zs hy'=>by rw [I.tuple_inj hy' hr]; exact hy,fr,rfl,rfl⟩,
   ⟨q7,up _ _ D.TIz hTI',⟨aa,bb,up _ _ D.TOz q2⟩,Zp.fQ q3 fun o e=>up _ o D.i1z e,Zp.fQ q4 fun o e=>up _ o D.i2z e⟩,fun c hb=>?_⟩
  have nb:c≠s.heap.objs.size:=by
   obtain ⟨h1,h2,⟨_,_,h3⟩,⟨o4,h4,_,d4⟩,⟨o5,h5,_,d5⟩⟩:=st
   rcases (by simpa using hb:c=z∨c=TO∨c=i1∨c=i2∨c=TI) with q | q | q | q | q <;> subst q
   ·exact lt _ _ h1
   ·exact lt _ _ h3
   ·exact lt _ _ h4
   ·exact lt _ _ h5
   ·exact lt _ _ h2
  rw [aq nb]
  exact (hf c hb).1
 done:=by
  intro X hP hw hK hc i pins s σ H E I hf st hg
  subst hP hw hK
  obtain ⟨xs,ys,hq,hr,hx⟩:=hg
  obtain ⟨its,rv,p,hz⟩:=I.tuple hq
  obtain ⟨jts,rw',p',hz'⟩:=I.tuple hr
  have l1:=rv.length
  have l2:=rw'.length
  refine Zp.va (I.ok.hd hc) D st (show s.heap.IsTuple a its.toArray from p) (show s.heap.IsTuple b jts.toArray from p') (by
   rcases hx with q | q
   ·left; simp; omega
   ·right; simp; omega) fun h' q=>⟨rfl,?_⟩
  exact I.turnedL (t':=s.toks) (ch:=[z,TO,i1,i2]) q fun c hc=>hf c (by
   rcases (by simpa using hc:c=z∨c=TO∨c=i1∨c=i2) with q | q | q | q <;> simp [q])
 self:=fun _ _ _ _ _ st h=>wpAny_pyIter_zip st.hz h
def DY (K:Frag)(ta tb:TE):TI:=fun σ H R=>cT ta (cT tb tNil) σ H fun vs H1=>∃ a b xs ys,vs=[.ref a,.ref b]∧bf K H1 a xs∧bf K H1 b ys∧R (DM K a b) H1
theorem B0 {X:Cx}{ea eb:Expr}{ta tb:TE}{elts:List Expr}{x1:Nat}{tp p pos:Pos}(ha:PE X ea ta)(hb:PE X eb tb)(hg:Gl X "zip")(hm:X.mg "zip"=none)(hs:fj ea=false:=by rfl)(hs':fj eb=false:=by rfl):
 PI X (.Tuple elts x1 tp) (.Call (.Name "zip" p) [ea,eb] [] pos) (DY X.K ta tb):=by
 intro pins s σ H R I h
 refine wpAny_Call_Name_kw (dm I hg hm (by rfl) ?_ (by decide) (by decide))
 refine PyProof.Rows.callWith_type1 (bH (aj ha (aj hb ae hs') hs pos pins s σ H _ I h) fun us s1 ⟨vs,H1,I1,r1,a,b,xs,ys,hv,hq,hr,rr⟩=>?_) (bu hs) (by rw [bu hs']; rfl)
 subst hv
 obtain ⟨u,u',rfl,ru,ru'⟩:=vS r1
 cases (show u=Value.ref a from ru)
 cases (show u'=Value.ref b from ru')
 obtain ⟨its,rv,pl,hz⟩:=I1.tuple hq
 obtain ⟨jts,rw',pl',hz'⟩:=I1.tuple hr
 refine Zp.CD (show s1.heap.IsTuple a its.toArray from pl) (show s1.heap.IsTuple b jts.toArray from pl') fun h' q1 q4=>?_
 have I2:Inv X pins σ H1 { s1 with heap:=h' }:=I1.kept (t':=s1.toks) q4
 have la:a < s1.heap.objs.size:=by obtain ⟨o,e,_⟩:=pl; exact Heap.lt_size e
 have lb:b < s1.heap.objs.size:=by obtain ⟨o,e,_⟩:=pl'; exact Heap.lt_size e
 refine wpAny_pyIter_zip (s:={ s1 with heap:=h' }) q1.hz ?_
 refine ⟨s1.heap.objs.size + 4,[s1.heap.objs.size + 4,s1.heap.objs.size + 3,s1.heap.objs.size,s1.heap.objs.size + 1,s1.heap.objs.size + 2],_,DM X.K a b,H1,rfl,I2,xq (Zp.yA _ _ _ la lb),q1,fun c hc=>?_,rr⟩
 have hb':s1.heap.objs.size≤c:=by
  rcases (by simpa using hc:c=s1.heap.objs.size + 4∨c=s1.heap.objs.size + 3∨c=s1.heap.objs.size∨c=s1.heap.objs.size + 1∨c=s1.heap.objs.size + 2) with q | q | q | q | q <;> rw [q]
  ·exact Nat.le_add_right _ _
  ·exact Nat.le_add_right _ _
  ·exact Nat.le_refl _
  ·exact Nat.le_add_right _ _
  ·exact Nat.le_add_right _ _
 exact I1.fpOk hb' (I1.hok.fresh hb')
end L2
namespace K04
open PySem L2 PySem.W
abbrev E1:Stmt:=bD (bt 33) 1
abbrev xx:Stmt:=(bt 10)
abbrev hJ:Stmt:=(bt 11)
def CT (C:Addr):Sp:=fun vs H Q _=>∃ (p dx:Addr)(i:Int)(y:V),vs=[.ref p,y]∧H p=some (.ins C dx (dD i)) ∧
 ((∃ q dy j,y = .ref q∧H q=some (.ins C dy (dD j))∧Q (.bl (decide (i=j))) H)∨∃ T,Th H y T∧Q (.bl false) H)
def bg:V->Bool
 | .int i=>decide (0≤i)&&decide (i < 60)
 | _=>false
def spPlace:Sp:=fun vs H Q _=>∃ x T,vs=[x]∧Th H x T∧Q (.bl (bg x)) H
variable {P:Program}{w:World}{K:PySem.W.Frag}{mg:Str->Option Value}{base:Heap}
theorem EJ:FnScope ["self","other"] ["self","other"] (ar E1):=eO (by decide +kernel)
theorem C8 {f C:Addr}{fd:FuncData}(F:Fun K "__eq__" "Field.__eq__" E1 f fd)(c:FieldK K mg C)(n:Nones mg):FnOk P w K mg base (bz P w) 1 f fd ["self","other"] (CT C):=by
 refine F.okN EJ (fun vs H Q E h=>?_) (fun cdv A outer s H vs Q E hr h=>?_)
 ·obtain ⟨p,dx,i,y,rfl,_⟩:=h
  rfl
 ·obtain ⟨p,dx,i,y,rfl,hp,h⟩:=h
  refine ⟨_,av (aD (cW (az bw (by rfl) n.isi (by rfl) (b8 (pv 1) (b8 (dh (by rfl) c.mgC (show aE (.ref C) (.ref C) from rfl)) ae)))
   (dO (cw dZ (dA (pv 0) rfl) (dA (pv 1) rfl) (aI _))))),?_⟩
  rcases h with ⟨q,dy,j,rfl,hq,z⟩ | ⟨T,th,z⟩
  ·refine ⟨_,rfl,.ref q,.ref C,_,_,_,rfl,rfl,c.ty hq,c.is,_,rfl,?_⟩
   refine bV ?_
   refine ⟨_,rfl,p,C,dx,_,_,rfl,hp,c.cl,c.nP,rfl,_,rfl,q,C,dy,_,_,rfl,hq,c.cl,c.nP,rfl,rfl,?_⟩
   have e:decide (V.int i=V.int j)=decide (i=j):=by simp
   rw [e]
   exact z
  ·exact ⟨_,rfl,y,.ref C,_,_,_,rfl,rfl,th.ty,c.no th,_,rfl,cf z⟩
theorem Ai:FnScope ["thing"] ["thing"] (ar xx):=eO (by decide +kernel)
theorem wY {f fw:Addr}{fd fdw:FuncData}{tM:Tok}(F:Fun K "is_place" "is_place" xx f fd)(mMP:mg "MOST_PLACES"=some (.int 60 tM))
 (FW:FnOk P w K mg base (bz P w) 1 fw fdw ["thing"] spWhole)(bW:L2.aH K fdw ["thing"] [])(mW:mg "is_whole"=some (.ref fw))(kW:keepIn K (.ref fw)=true):FnOk P w K mg base (bz P w) 2 f fd ["thing"] spPlace:=by
 refine F.okN Ai (fun vs H Q E h=>?_) (fun cdv A outer s H vs Q E hr h=>?_)
 ·obtain ⟨x,T,rfl,_⟩:=h
  rfl
 ·obtain ⟨x,T,rfl,th,q⟩:=h
  have hr1:Room 1 _:=hr.mono (by decide)
  refine ⟨_,av (aD (cW (aB FW hr1 (by rfl) mW kW bW .nil ah (@aj _ _ _ _ _ (pv 0) ae rfl)) (dO (jC tV iQ ai (pv 0) (dh (by rfl) mMP (show aE (.int 60) (.int 60 tM) from ⟨_,rfl⟩)))))),?_⟩
  refine ⟨_,rfl,x,T,rfl,th,_,rfl,?_⟩
  cases e:cp x with
  | false =>
    have z:bg x=false:=by cases x <;> first | rfl | cases e
    rw [z] at q
    exact cf q
  | true =>
    have z1:∃ i,x = .int i:=by cases x <;> first | exact ⟨_,rfl⟩ | cases e
    obtain ⟨i,rfl⟩:=z1
    refine bV ?_
    refine ⟨_,rfl,_,_,rfl,rfl,_,rfl,?_⟩
    refine bQ (fun h=>?_) (fun h=>?_)
    ·refine ⟨_,_,rfl,rfl,?_⟩
     have h':decide (0≤i)=true:=h
     have z:bg (.int i)=decide (i < 60):=by show (decide (0≤i)&&decide (i < 60))=_; rw [h',Bool.true_and]
     rw [z] at q
     exact q
    ·have h':decide (0≤i)=false:=by simpa using h
     have z:bg (.int i)=false:=by show (decide (0≤i)&&decide (i < 60))=_; rw [h',Bool.false_and]
     rw [z] at q
     exact q
end K04
namespace HT
open PySem PyProof.Rows
section
variable {prog:Program}{w:World}{A:Around}{E:Value->Shared->Prop}{s:Shared}
theorem fX {t sl:Addr}{items:Array Value}{vl vu:Value}{lo hi:Option Int}{Q:Value->Shared->Prop}(ht:IsTup s.heap t items)(hs:s.heap.IsSliceOf sl vl vu .none)(pl:IsPart vl lo)(pu:IsPart vu hi)
 (h0:dG items.size 0 lo=0)(h1:dG items.size items.size hi=items.size)(h:Q (.ref t) s):wpAny (model prog w) A (getItem (.ref t) (.ref sl)) Q E s:=by
 obtain ⟨os,hos,hcs,hds⟩:=id hs
 have hTs:s.TypeIs (.ref sl) "slice":=⟨os,hos,hcs⟩
 unfold getItem
 try with_reducible refine wpAny_holding ?_
 first | refine wpAny_bind (wpAny_pure ?_) | skip
 refine wpAny_bind (wpAny_sequenceKey ht.typeIs (by decide) ?_)
 refine wpAny_bind (wpAny_callSpecial?_slot (name:=Str.ofString "__getitem__") ht.typeIs PyProof.Rows.slot_tuple_getitem
  (wpAny_call_entry PyProof.Rows.slot_tuple_getitem ht.typeIs entry_tuple_getitem ?_ (args_tuple_getitem _ _)))
 show wpAny _ _ (Builtin.Tuple.tupleItemsOf (.ref t) >>= _) _ _ s
 refine wpAny_bind (tupleItemsOf_ ht ?_)
 refine wpAny_bind (wpAny_typeOf hTs ?_)
 rw [if_pos (by decide)]
 refine wpAny_bind (eu hs pl pu ?_)
 rw [h0,h1]
 have hyes:((((0:Nat):Int) == 0&&(1:Int) == 1&&(items.size - 0) == items.size)=true):=by simp
 dsimp only
 rw [if_pos hyes]
 show wpAny _ _ (Builtin.Tuple.tupleIsExact (.ref t) >>= _) _ _ s
 refine wpAny_bind ?_
 unfold Builtin.Tuple.tupleIsExact
 refine wpAny_bind (wpAny_typeOf ht.typeIs (wpAny_pure ?_))
 rw [if_pos (by decide)]
 refine wpAny_bind (wpAny_rule ?_)
 exact wpAny_pure ⟨_,rfl,wpAny_pure h⟩
end
end HT
namespace L2
open PySem PySem.Spec PyProof.Rows PySem.W
variable {X:Cx}
def Ep (K:Frag):V->Option Int->Option Int->Hp->VK->Prop:=fun x lo hi H Q=>∃ a xs,x = .ref a∧bf K H a xs∧(mM xs lo hi=xs->Q (.ref a) H)∧∀ p,H p=none->Q (.ref p) (upd H p (.tup (mM xs lo hi)))
theorem zG:Ee X (Ep X.K):=by
 intro pins s σ H x v vl vu lo hi sl Q I rx hs pl pu h
 obtain ⟨a,xs,rfl,hx,h1,h2⟩:=h
 by_cases hw:HT.dG xs.length 0 lo=0∧HT.dG xs.length xs.length hi=xs.length
 ·cases rx
  obtain ⟨its,r,ht,hz⟩:=I.tuple hx
  have hlen:its.toArray.size=xs.length:=by rw [List.size_toArray]; exact r.length.symm
  refine ⟨"tuple",_,PyProof.Rows.slot_tuple_getitem.lookup,ht.typeIs,?_⟩
  refine HT.fX ht hs pl pu (by rw [hlen]; exact hw.1) (by rw [hlen]; exact hw.2) ?_
  refine ⟨.ref a,H,I,rfl,h1 ?_⟩
  unfold mM
  rw [hw.1,hw.2]
  simp
 ·exact A6 pins s σ H (.ref a) v vl vu lo hi sl Q I rx hs pl pu ⟨a,xs,rfl,hx,hw,h2⟩
end L2
namespace K04
open PySem L2 PySem.W
inductive PX (H:Hp):V->Option (List V)->Prop where
 | no {x:V}{T:String}:Th H x T->T ≠ "tuple"->PX H x none
 | tup {a:Addr}{xs:List V}:H a=some (.tup xs)->xs.length < 4000->(∀ y∈xs,∃ T,Th H y T)->PX H (.ref a) (some xs)
def yD:V->V->Bool
 | .int a,.int b=>decide (a < b)
 | _,_=>false
def cx (xs:List V):Bool:=(xs.zip (xs.drop 1)).all fun p=>yD p.1 p.2
def da:Option (List V)->Bool
 | none=>false
 | some xs=>xs.all bg&&cx xs
def spProduct:Sp:=fun vs H Q _=>∃ x o,vs=[x]∧PX H x o∧∀ H',aA H H'->Q (.bl (da o)) H'
theorem CW (xs:List V):mM xs (some 1) none=xs.drop 1:=by
 unfold mM HT.dG
 cases xs with
 | nil=>rfl
 | cons x xs=>simp
theorem vJ:FnScope ["thing"] ["thing"] (ar hJ):=eO (by decide +kernel)
theorem qT:∀ bs:List Bool,Paired DK (bs.map V.bl) bs
 | []=>.nil
 | b :: bs=>.cons rfl (qT bs)
variable {P:Program}{w:World}{K:PySem.W.Frag}{mg:Str->Option Value}{base:Heap}
theorem rC {f fp:Addr}{fd fdp:FuncData}(F:Fun K "is_product" "is_product" hJ f fd)(m_isinstance:mg "isinstance"=none)(m_tuple:mg "tuple"=none)(m_all:mg "all"=none)(m_zip:mg "zip"=none)
 (FP:FnOk P w K mg base (bz P w) 2 fp fdp ["thing"] spPlace)(bP:L2.aH K fdp ["thing"] [])(mP:mg "is_place"=some (.ref fp))(kP:keepIn K (.ref fp)=true):FnOk P w K mg base (bz P w) 3 f fd ["thing"] spProduct:=by
 refine F.okN vJ (fun vs H Q E h=>?_) (fun cdv A outer s H vs Q E hr h=>?_)
 ·obtain ⟨x,o,rfl,_⟩:=h
  rfl
 ·obtain ⟨x,o,rfl,px,q⟩:=h
  have hr2:Room 2 _:=hr.mono (by decide)
  refine ⟨_,(ao (bJ (PW.pt (cH (cc (cb (az bw (by rfl) m_isinstance (by rfl) (@aj _ _ _ _ _ (pv 0) (@aj _ _ _ _ _ (cA (by rfl) m_tuple (by rfl) (show aE (.ty "tuple") (.type "tuple") from rfl)) ae rfl) rfl)))) (de (cc (cb (az (pL rfl) (by rfl) m_all (by rfl) (@aj _ _ _ _ _ (dJ (N:=["place"]) (nl:=1) (js:=[]) (osc:=ar hJ) ⟨rfl,rfl,by decide +kernel,by decide +kernel,by decide +kernel,rfl,.nil,by decide +kernel⟩ rfl
   (qY (pv 0))
   (fun C fp s H=>aR (i:=0) (by show (["place"]:List Str).Nodup; decide +kernel) rfl (Or.inl rfl) (Or.inr rfl))
   (fun C fp s H=>gM)
   (fun C fp s H=>(aB FP hr2 (by rfl) mP kP bP .nil ah (@aj _ _ _ _ _ (pv 0) ae rfl)))) ae rfl))))))) (av (aD c7)) aO)
   (av (aD (az (pL rfl) (by rfl) m_all (by rfl) (@aj _ _ _ _ _ (dJ (g:=nv K 2 (cS (bZ 0) (cS (bZ 1) gNil))) (N:=["place","later"]) (nl:=2) (js:=[]) (osc:=ar hJ) ⟨rfl,rfl,by decide +kernel,by decide +kernel,by decide +kernel,rfl,.nil,by decide +kernel⟩ rfl
    (B0 (pv 0) (yb zG (pv 0) (zo ai) zJ) (by rfl) m_zip)
    (fun C fp s H=>(dX (X:=eN _ ["place","later"] _ C fp s H) rfl (bo (aR (X:=eN _ ["place","later"] _ C fp s H) (i:=0) (by show (["place","later"]:List Str).Nodup; decide +kernel) rfl (Or.inl rfl) (Or.inr rfl)) (bo (aR (X:=eN _ ["place","later"] _ C fp s H) (i:=1) (by show (["place","later"]:List Str).Nodup; decide +kernel) rfl (Or.inl rfl) (Or.inr rfl)) c0))))
    (fun C fp s H=>gM)
    (fun C fp s H=>(@cw _ _ _ _ _ _ _ _ iQ (pv 0) (pv 1) (aI _)))) ae rfl))))),?_⟩
  cases px with
  | @no x T th ne =>
    refine ⟨_,rfl,x,.ty "tuple",_,_,_,rfl,rfl,th.ty,th.isTup,_,rfl,?_⟩
    rw [decide_eq_false ne]
    exact bV (bV (q _ (aA.refl _)))
  | @tup a xs ha hl hth =>
    refine ⟨_,rfl,.ref a,.ty "tuple",_,_,_,rfl,rfl,.of (.tup ha),rfl,_,rfl,cf ?_⟩
    have bnd:∀ n,n≤xs.length->n < sizeLine:=fun n hn=>Nat.lt_of_le_of_lt hn (Nat.lt_trans hl (by decide))
    refine ⟨_,rfl,a,rfl,⟨xs,bf.of ha⟩,?_⟩
    refine ⟨fun i m ys σ' H'=>m=xs.length - i∧i≤xs.length∧ys=((xs.take i).map bg).map V.bl∧H=H'∧∃ o,σ'=[o],⟨xs.length,by simp,Nat.zero_le _,by simp,rfl,none,rfl⟩,?_⟩
    rintro i m ys σ' H' ⟨rfl,hi,rfl,rfl,o,rfl⟩
    refine ⟨bnd _ (by simp; omega),?_⟩
    by_cases hlt:i < xs.length
    ·refine .inr ⟨⟨xs,xs[i],bf.of ha,by simp [hlt]⟩,fun y H2 hy=>?_⟩
     obtain ⟨rfl,hy⟩:=hy
     have ey:=hy xs (bf.of ha)
     obtain ⟨T,th⟩:=hth y (List.mem_of_getElem? ey)
     dsimp only [tYes,bZ]
     refine bV ⟨_,rfl,y,T,rfl,th,xs.length - (i + 1),by omega,rfl,hlt,?_,rfl,_,rfl⟩
     have e2:xs.take (i + 1)=xs.take i++[y]:=by
      rw [List.take_add_one,ey]; rfl
     rw [e2]
     simp
    ·have ei:i=xs.length:=by omega
     subst ei
     refine .inl ⟨⟨xs,bf.of ha,Nat.le_refl _⟩,fun D hD=>?_⟩
     rw [List.take_length]
     refine ⟨D,_,xs.map bg,rfl,br.of ag,qT _,_,rfl,?_⟩
     have sD:aA H (upd H D (.lst ((xs.map bg).map V.bl))):=ak hD
     cases hp:(xs.map bg).all id with
     | false =>
       have z:da (some xs)=false:=by
        show (xs.all bg&&cx xs)=_
        have:xs.all bg=false:=by rw [← hp,List.all_map]; rfl
        rw [this,Bool.false_and]
       rw [z] at q
       exact bV (q _ sD)
     | true =>
       refine cf ?_
       have z:da (some xs)=cx xs:=by
        show (xs.all bg&&cx xs)=_
        have:xs.all bg=true:=by rw [← hp,List.all_map]; rfl
        rw [this,Bool.true_and]
       rw [z] at q
       generalize upd H D (.lst ((xs.map bg).map V.bl))=H1 at sD ⊢
       have ha1:=sD _ _ ha
       have hint:∀ y∈xs,∃ n,y=V.int n:=fun y hy=>by
        have:bg y=true:=List.all_eq_true.mp hp _ (List.mem_map_of_mem hy)
        cases y <;> first | exact ⟨_,rfl⟩ | cases this
       have key:∀ (b:Addr)(H2:Hp),aA H H2->H2 a=some (.tup xs)->H2 b=some (.tup (xs.drop 1)) →
        ∃ W:Nat->Nat->List V->St->Hp->Prop,(∃ m,W 0 m [] [none,none] H2)∧iR (DM K a b) (nv K 2 (cS (bZ 0) (cS (bZ 1) gNil))) tYes (mJ (vP fun i j=>V.bl (decide (i < j))) (dF 0) (dF 1)) W
          fun ys H'=>∀ D,H' D=none->∃ l zs bs,[V.ref D]=[V.ref l]∧br K (upd H' D (.lst ys)) l zs∧Paired DK zs bs∧Q (.bl (bs.all id)) (upd H' D (.lst ys)):=by
        intro b H2 s2 h2a h2b
        refine ⟨fun i m ys σ' H'=>m=(xs.drop 1).length - i∧i≤(xs.drop 1).length∧ys=(((xs.zip (xs.drop 1)).take i).map fun p=>yD p.1 p.2).map V.bl∧aA H2 H'∧∃ o1 o2,σ'=[o1,o2],⟨(xs.drop 1).length,by simp,Nat.zero_le _,by simp,aA.refl _,none,none,rfl⟩,?_⟩
        rintro i m ys σ' H' ⟨rfl,hi,rfl,sH,o1,o2,rfl⟩
        have ha':=sH _ _ h2a
        have hb':=sH _ _ h2b
        refine ⟨bnd _ (by simp; omega),?_⟩
        by_cases hlt:i < (xs.drop 1).length
        ·have hlt1:i < xs.length:=by rw [List.length_drop] at hlt; omega
         refine .inr ⟨⟨xs,xs.drop 1,xs[i],(xs.drop 1)[i],bf.of ha',bf.of hb',by simp [hlt1],by rw [List.getElem?_eq_getElem hlt]⟩,fun v H3 hv=>?_⟩
         obtain ⟨T,x,y,hx,hy,hT,rfl,rfl⟩:=hv
         have ex:=hx xs (bf.of ha')
         have ey:=hy (xs.drop 1) (bf.of hb')
         obtain ⟨n,rfl⟩:=hint x (List.mem_of_getElem? ex)
         obtain ⟨k,rfl⟩:=hint y (List.mem_of_mem_drop (List.mem_of_getElem? ey))
         refine ⟨T,_,rfl,bf.of ag,rfl,_,_,rfl,_,_,rfl,rfl,?_⟩
         dsimp only [tYes]
         refine bV ⟨_,rfl,_,rfl,n,k,rfl,rfl,(xs.drop 1).length - (i + 1),by omega,rfl,hlt,?_,fun c u e=>?_,_,_,rfl⟩
         ·have ez:(xs.zip (xs.drop 1))[i]?=some (V.int n,V.int k):=by
           rw [List.getElem?_zip_eq_some]
           exact ⟨ex,ey⟩
          have e2:(xs.zip (xs.drop 1)).take (i + 1)=(xs.zip (xs.drop 1)).take i++[(V.int n,V.int k)]:=by
           rw [List.take_add_one,ez]; rfl
          rw [e2]
          simp [yD]
         ·rw [aq (au (sH _ _ e) hT)]
          exact sH _ _ e
        ·have ei:i=(xs.drop 1).length:=by omega
         subst ei
         refine .inl ⟨⟨xs,xs.drop 1,bf.of ha',bf.of hb',.inr (Nat.le_refl _)⟩,fun D' hD'=>?_⟩
         have et:(xs.zip (xs.drop 1)).take (xs.drop 1).length=xs.zip (xs.drop 1):=by
          apply List.take_of_length_le
          rw [List.length_zip]
          exact Nat.min_le_right _ _
         rw [et]
         refine ⟨D',_,(xs.zip (xs.drop 1)).map fun p=>yD p.1 p.2,rfl,br.of ag,qT _,?_⟩
         have er:((xs.zip (xs.drop 1)).map fun p=>yD p.1 p.2).all id=cx xs:=by rw [List.all_map]; rfl
         rw [er]
         refine q _ fun c u e=>?_
         have e1:=sH _ _ (s2 _ _ e)
         rw [aq (au e1 hD')]
         exact e1
       refine ⟨_,rfl,_,rfl,1,rfl,a,xs,rfl,bf.of ha1,fun e=>?_,fun p hpn=>?_⟩
       ·rw [CW] at e
        exact ⟨a,a,xs,xs.drop 1,rfl,bf.of ha1,bf.of (by rw [e]; exact ha1),key a H1 sD ha1 (by rw [e]; exact ha1)⟩
       ·rw [CW]
        have np:a≠p:=au ha1 hpn
        exact ⟨a,p,xs,xs.drop 1,rfl,bf.of (by rw [aq np]; exact ha1),bf.of ag,key p _ (fun c u e=>by rw [aq (au (sD _ _ e) hpn)]; exact sD _ _ e) (by rw [aq np]; exact ha1) ag⟩
abbrev A3:Stmt:=(bt 20)
theorem PX.same {H H':Hp}{x:V}{o:Option (List V)}(h:PX H x o)(s:aA H H'):PX H' x o:=by
 cases h with
 | no th n=>exact .no (th.same s) n
 | tup e l h=>exact .tup (s _ _ e) l fun y hy=>let ⟨T,t⟩:=h y hy; ⟨T,t.same s⟩
inductive TmX (p:Int)(H:Hp):V->Bool->Prop where
 | no {x:V}{T:String}:Th H x T->T ≠ "tuple"->TmX p H x false
 | odd {a:Addr}{xs:List V}:H a=some (.tup xs)->xs.length≠2->TmX p H (.ref a) false
 | two {a:Addr}{y z:V}{o:Option (List V)}{o2:Option (V × V)}:H a=some (.tup [y,z])->PX H y o->TX H z o2->TmX p H (.ref a) (da o&&gf p o2)
theorem TmX.same {p:Int}{H H':Hp}{x:V}{b:Bool}(h:TmX p H x b)(s:aA H H'):TmX p H' x b:=by
 cases h with
 | no th n=>exact .no (th.same s) n
 | odd e n=>exact .odd (s _ _ e) n
 | two e h1 h2=>exact .two (s _ _ e) (h1.same s) (h2.same s)
def ye (C:Addr):Sp:=fun vs H Q _=>∃ (s dx:Addr)(p:Int)(x:V)(b:Bool),vs=[.ref s,x]∧H s=some (.ins C dx (dD p))∧FP p∧TmX p H x b∧∀ H',aA H H'->Q (.bl b) H'
theorem B7:FnScope ["field","thing"] ["field","thing"] (ar A3):=eO (by decide +kernel)
theorem Ab {f fp fi C:Addr}{fd fdp fdi:FuncData}(F:Fun K "is_term" "is_term" A3 f fd)(c:FieldK K mg C)(m_isinstance:mg "isinstance"=none)(m_tuple:mg "tuple"=none)(m_len:mg "len"=none)
 (FP':FnOk P w K mg base (bz P w) 3 fp fdp ["thing"] spProduct)(bP:L2.aH K fdp ["thing"] [])(mP:mg "is_product"=some (.ref fp))(kP:keepIn K (.ref fp)=true)
 (FI:FnOk P w K mg base (bz P w) 2 fi fdi ["self","thing"] (ke C))(bI:L2.aH K fdi ["self","thing"] [])(mI:L2.Meth K C "is_number" fi):FnOk P w K mg base (bz P w) 4 f fd ["field","thing"] (ye C):=by
 refine F.okN B7 (fun vs H Q E h=>?_) (fun cdv A outer s H vs Q E hr h=>?_)
 ·obtain ⟨s,dx,p,x,b,rfl,_⟩:=h
  rfl
 ·obtain ⟨s0,dx,p,x,b,rfl,hs,hp,tx,q⟩:=h
  have hr3:Room 3 _:=hr.mono (by decide)
  have hr2:Room 2 _:=hr.mono (by decide)
  refine ⟨_,av (aD (cW (az bw (by rfl) m_isinstance (by rfl) (@aj _ _ _ _ _ (pv 1) (@aj _ _ _ _ _ (cA (by rfl) m_tuple (by rfl) (show aE (.ty "tuple") (.type "tuple") from rfl)) ae rfl) rfl))
   (cW (@cw _ _ _ _ _ _ _ _ dZ (az a9 (by rfl) m_len PySem.boot_len (@aj _ _ _ _ _ (pv 1) ae rfl)) ai (aI _))
   (cW (aB FP' hr3 (by rfl) mP kP bP .nil ah (@aj _ _ _ _ _ (@aQ _ _ _ _ _ _ _ aY (pv 1) ai (fun _ _=>rfl)) ae rfl))
   (dO (nG (pv 0) c.cl mI FI hr2 bI .nil ah (@aj _ _ _ _ _ (@aQ _ _ _ _ _ _ _ aY (pv 1) ai (fun _ _=>rfl)) ae rfl))))))),?_⟩
  cases tx with
  | @no x T th ne =>
    refine ⟨_,rfl,x,.ty "tuple",_,_,_,rfl,rfl,th.ty,th.isTup,_,rfl,?_⟩
    rw [decide_eq_false ne]
    exact cf (q _ (aA.refl _))
  | @odd a xs ha hl =>
    refine ⟨_,rfl,.ref a,.ty "tuple",_,_,_,rfl,rfl,.of (.tup ha),rfl,_,rfl,bV ?_⟩
    refine ⟨_,rfl,a,_,rfl,.inr (bf.of ha),rfl,_,rfl,?_⟩
    refine bQ (fun h=>absurd h (by simp; omega)) (fun h=>?_)
    exact q _ (aA.refl _)
  | @two a y z o o2 ha hy hz =>
    refine ⟨_,rfl,.ref a,.ty "tuple",_,_,_,rfl,rfl,.of (.tup ha),rfl,_,rfl,bV ?_⟩
    refine ⟨_,rfl,a,_,rfl,.inr (bf.of ha),rfl,_,rfl,bV ?_⟩
    refine ⟨_,rfl,a,_,0,y,rfl,rfl,bf.of ha,rfl,y,o,rfl,hy,fun H' sH=>⟨_,rfl,?_⟩⟩
    have hs':=sH _ _ hs
    have ha':=sH _ _ ha
    cases e:da o with
    | false =>
      rw [e,Bool.false_and] at q
      exact cf (q _ sH)
    | true =>
      rw [e,Bool.true_and] at q
      refine bV ⟨_,rfl,s0,dx,_,rfl,hs',rfl,_,rfl,a,_,1,z,rfl,rfl,bf.of ha',rfl,s0,dx,p,z,o2,rfl,hs',hp,hz.same sH,q _ sH⟩
abbrev pC:Stmt:=(bt 21)
abbrev oB:Stmt:=(bt 22)
def spPlaceOf:Sp:=fun vs H Q _=>∃ (a b:Addr)(z:V)(xs:List V),vs=[.ref a]∧H a=some (.tup [.ref b,z])∧H b=some (.tup xs)∧∀ t,H t=none->Q (.ref t) (upd H t (.tup [.int xs.length,.ref b]))
theorem iq:FnScope ["field","terms","number","thing"] ["field","terms"] (ar pC):=eO (by decide +kernel)
theorem vC:FnScope ["term"] ["term"] (ar oB):=eO (by decide +kernel)
theorem qj {f:Addr}{fd:FuncData}(F:Fun K "place_of_term" "place_of_term" oB f fd)(m_len:mg "len"=none):FnOk P w K mg base (bz P w) 1 f fd ["term"] spPlaceOf:=by
 refine F.okN vC (fun vs H Q E h=>?_) (fun cdv A outer s H vs Q E hr h=>?_)
 ·obtain ⟨a,b,z,xs,rfl,_⟩:=h
  rfl
 ·obtain ⟨a,b,z,xs,rfl,ha,hb,q⟩:=h
  refine ⟨_,(av (aD (@aC _ _ _ _ _ (@aj _ _ _ _ _ (az a9 (by rfl) m_len PySem.boot_len (@aj _ _ _ _ _ (@aQ _ _ _ _ _ _ _ aY (pv 0) ai (fun _ _=>rfl)) ae rfl)) (@aj _ _ _ _ _ (@aQ _ _ _ _ _ _ _ aY (pv 0) ai (fun _ _=>rfl)) ae rfl) rfl)))),?_⟩
  refine ⟨_,rfl,a,_,0,_,rfl,rfl,bf.of ha,rfl,b,xs,rfl,.inr (bf.of hb),_,rfl,a,_,0,_,rfl,rfl,bf.of ha,rfl,kQ,fun t ht=>q t ht⟩
end K04
namespace Srt
open PySem PySem.W PyProof.Rows
structure Pm (n:Nat)(r:Nat->Nat)(p:Array Nat):Prop where
 size:p.size=n
 lt:∀ k,k < n->p.getD k 0 < n
 ne:∀ k l,k < n->l < n->k≠l->r (p.getD k 0)≠r (p.getD l 0)
 perm:p.Perm (List.range n).toArray
section
variable {n:Nat}{r:Nat->Nat}
theorem Pm.nq {n:Nat}{r:Nat->Nat}{p:Array Nat}(P:Pm n r p)(k l:Nat)(hk:k < n)(hl:l < n)(h:k≠l):p.getD k 0≠p.getD l 0:=fun z=>P.ne k l hk hl h (by rw [z])
theorem getD_some {p:Array Nat}{k:Nat}(h:k < p.size):p[k]?=some (p.getD k 0):=by simp [Array.getD,h]
theorem pk (inj:∀ i j,i < n->j < n->i≠j->r i≠r j){p:Array Nat}(hp:p.Perm (List.range n).toArray):Pm n r p:=by
 have hl:p.toList.Perm (List.range n):=by simpa using hp.toList
 have hs:p.size=n:=by rw [← Array.length_toList,hl.length_eq,List.length_range]
 have hlt:∀ k,k < n->p.getD k 0 < n:=fun k hk=>by
  have hm:p.getD k 0∈p.toList:=by
   rw [show p.getD k 0=p[k]'(by omega) by simp [Array.getD,hs,hk]]
   exact Array.mem_toList_iff.mpr (Array.getElem_mem _)
  exact List.mem_range.mp (hl.mem_iff.mp hm)
 refine ⟨hs,hlt,fun k l hk hl' hne=>inj _ _ (hlt k hk) (hlt l hl') fun e=>hne ?_,hp⟩
 have nd:p.toList.Nodup:=hl.nodup_iff.mpr List.nodup_range
 have e1:p.toList[k]'(by simp; omega)=p.toList[l]'(by simp; omega):=by
  rw [show p.getD k 0=p[k]'(by omega) by simp [Array.getD,hs,hk],show p.getD l 0=p[l]'(by omega) by simp [Array.getD,hs,hl']] at e
  simpa using e
 have pw:=List.pairwise_iff_getElem.mp (show p.toList.Pairwise (· ≠ ·) from nd)
 rcases Nat.lt_trichotomy k l with z | z | z
 ·exact absurd e1 (pw k l _ _ z)
 ·exact z
 ·exact absurd e1.symm (pw l k _ _ z)
def Up (r:Nat->Nat)(p:Array Nat)(m:Nat):Prop:=∀ i j,i < j->j < m->r (p.getD i 0) < r (p.getD j 0)
def Dn (r:Nat->Nat)(p:Array Nat)(m:Nat):Prop:=∀ i j,i < j->j < m->r (p.getD j 0) < r (p.getD i 0)
theorem Up.succ {p:Array Nat}{m:Nat}(h:Up r p m)(h1:1≤m)(e:r (p.getD (m - 1) 0) < r (p.getD m 0)):Up r p (m + 1):=fun i j hij hj=>by
 by_cases z:j=m
 ·subst z
  by_cases z2:i=j - 1
  ·subst z2; exact e
  ·exact Nat.lt_trans (h i (j - 1) (by omega) (by omega)) e
 ·exact h i j hij (by omega)
theorem Dn.succ {p:Array Nat}{m:Nat}(h:Dn r p m)(h1:1≤m)(e:r (p.getD m 0) < r (p.getD (m - 1) 0)):Dn r p (m + 1):=fun i j hij hj=>by
 by_cases z:j=m
 ·subst z
  by_cases z2:i=j - 1
  ·subst z2; exact e
  ·exact Nat.lt_trans e (h i (j - 1) (by omega) (by omega))
 ·exact h i j hij (by omega)
theorem rT {p:Array Nat}{m k:Nat}(hm:m≤p.size)(hk:k < p.size):(kas_rev p 0 m).getD k 0=if k < m then p.getD (m - 1 - k) 0 else p.getD k 0:=by
 have e:=getElem?_mirror_all (xs:=p) (i:=0) hm k
 have hs:(kas_rev p 0 m).size=p.size:=mirror_size _ _ _ _
 have e2:(kas_rev p 0 m)[k]?=some ((kas_rev p 0 m).getD k 0):=getD_some (by rw [hs]; exact hk)
 have e3:(kas_rev p 0 m)[k]?=if 0≤k∧k < m then p[0 + m - 1 - k]? else p[k]?:=e
 rw [e2] at e3
 by_cases h:k < m
 ·rw [if_pos ⟨Nat.zero_le _,h⟩,show 0 + m - 1 - k=m - 1 - k by omega,getD_some (by omega)] at e3
  rw [if_pos h]
  exact Option.some.inj e3
 ·rw [if_neg (fun z=>h z.2),getD_some hk] at e3
  rw [if_neg h]
  exact Option.some.inj e3
theorem Dn.rev {p:Array Nat}{m:Nat}(h:Dn r p m)(hm:m≤p.size):Up r (kas_rev p 0 m) m:=fun i j hij hj=>by
 rw [rT hm (by omega),rT hm (by omega),if_pos (by omega),if_pos hj]
 exact h _ _ (by omega) (by omega)
variable {cmp:Nat->Nat->(Bool->Shared->Prop)->Shared->Prop}{s:Shared}
theorem qd (hc:∀ i j C,i < n->j < n->i≠j->C (decide (r i < r j)) s->cmp i j C s){p:Array Nat}(P:Pm n r p){Q:Nat->Shared->Prop}:∀ (f m:Nat),1≤m->m + f=n->Up r p m →
 (∀ m',m≤m'->m'≤n->Up r p m'->(m' < n->r (p.getD m' 0) < r (p.getD (m' - 1) 0))->Q m' s)->(kas_asc p f m).kasWp cmp Q s
 | 0,m,h1,hm,hu,hQ=>hQ m (Nat.le_refl _) (by omega) hu fun h=>by omega
 | f + 1,m,h1,hm,hu,hQ=>by
   refine hc _ _ _ (P.lt m (by omega)) (P.lt (m - 1) (by omega)) (P.nq m (m - 1) (by omega) (by omega) (by omega)) ?_
   show ((if decide (r (p.getD m 0) < r (p.getD (m - 1) 0))=true then KasT.ret m else kas_asc p f (m + 1)).kasWp cmp Q s)
   by_cases h:r (p.getD m 0) < r (p.getD (m - 1) 0)
   ·rw [if_pos (decide_eq_true h)]
    exact hQ m (Nat.le_refl _) (by omega) hu fun _=>h
   ·rw [if_neg (by simpa using h)]
    have ne:=P.ne m (m - 1) (by omega) (by omega) (by omega)
    exact qd hc P f (m + 1) (by omega) (by omega) (hu.succ h1 (by omega)) fun m' h2=>hQ m' (by omega)
theorem tX (hc:∀ i j C,i < n->j < n->i≠j->C (decide (r i < r j)) s->cmp i j C s){p:Array Nat}(P:Pm n r p){Q:Array Nat × Nat × Nat->Shared->Prop}:∀ (f m:Nat),1≤m->m + f=n->Dn r p m →
 (∀ m',m≤m'->m'≤n->Dn r p m'->Q (p,m',0) s)->(kas_desc f p m 0).kasWp cmp Q s
 | 0,m,h1,hm,hu,hQ=>hQ m (Nat.le_refl _) (by omega) hu
 | f + 1,m,h1,hm,hu,hQ=>by
   refine hc _ _ _ (P.lt m (by omega)) (P.lt (m - 1) (by omega)) (P.nq m (m - 1) (by omega) (by omega) (by omega)) ?_
   by_cases h:r (p.getD m 0) < r (p.getD (m - 1) 0)
   ·rw [decide_eq_true h]
    exact tX hc P f (m + 1) (by omega) (by omega) (hu.succ h1 h) fun m' h2=>hQ m' (by omega)
   ·rw [decide_eq_false h]
    refine hc _ _ _ (P.lt (m - 1) (by omega)) (P.lt m (by omega)) (P.nq (m - 1) m (by omega) (by omega) (by omega)) ?_
    have ne:=P.ne m (m - 1) (by omega) (by omega) (by omega)
    rw [decide_eq_true (show r (p.getD (m - 1) 0) < r (p.getD m 0) by omega)]
    exact hQ m (Nat.le_refl _) (by omega) hu
theorem vU (inj:∀ i j,i < n->j < n->i≠j->r i≠r j)(hc:∀ i j C,i < n->j < n->i≠j->C (decide (r i < r j)) s->cmp i j C s){p:Array Nat}(P:Pm n r p){Q:Nat × Array Nat->Shared->Prop}{m:Nat}(h1:1≤m)(hm:m≤n)(hd:Dn r p m)
 (hQ:∀ m' p',m'≤n->1≤m'->Pm n r p'->Up r p' m'->Q (m',p') s):(kas_tail3 m n p).kasWp cmp Q s:=by
 unfold kas_tail3
 rw [KasT.kasWp_bind]
 have P':Pm n r (kas_rev p 0 m):=pk inj ((mirror_perm _ _ _ _).trans P.perm)
 exact qd hc P' (n - m) m h1 (by omega) (hd.rev (by rw [P.size]; exact hm)) fun m' h2 h3 h4 _=>hQ m' _ h3 (by omega) P' h4
theorem yw (inj:∀ i j,i < n->j < n->i≠j->r i≠r j)(hc:∀ i j C,i < n->j < n->i≠j->C (decide (r i < r j)) s->cmp i j C s)(h0:1≤n){p:Array Nat}(P:Pm n r p){Q:Nat × Array Nat->Shared->Prop}
 (hQ:∀ m' p',m'≤n->1≤m'->Pm n r p'->Up r p' m'->Q (m',p') s):(kas_count n p).kasWp cmp Q s:=by
 unfold kas_count
 rw [KasT.kasWp_bind]
 refine qd hc P (n - 1) 1 (Nat.le_refl _) (by omega) (fun i j hij hj=>by omega) fun m h1 h2 h3 h4=>?_
 by_cases e:m=n
 ·subst e
  rw [if_pos (by simp)]
  exact hQ _ _ (Nat.le_refl _) h1 P h3
 ·rw [if_neg (by simpa using e)]
  by_cases h5:m > 1
  ·rw [if_pos h5]
   refine hc _ _ _ (P.lt 0 (by omega)) (P.lt (m - 1) (by omega)) (P.nq 0 (m - 1) (by omega) (by omega) (by omega)) ?_
   rw [decide_eq_true (h3 0 (m - 1) (by omega) (by omega))]
   exact hQ _ _ h2 h1 P h3
  ·rw [if_neg h5]
   have e1:m=1:=by omega
   subst e1
   unfold kas_descPart
   rw [KasT.kasWp_bind]
   have d2:Dn r p (1 + 1):=Dn.succ (fun i j hij hj=>by omega) (Nat.le_refl _) (h4 (by omega))
   refine tX hc P (n - (1 + 1)) (1 + 1) (by omega) (by omega) d2 fun m' h6 h7 h8=>?_
   show ((if 0 > 0 then _ else kas_tail3 m' n p).kasWp cmp Q s)
   rw [if_neg (by omega)]
   exact vU inj hc P (by omega) h7 h8 hQ
theorem jR (hc:∀ i j C,i < n->j < n->i≠j->C (decide (r i < r j)) s->cmp i j C s){p:Array Nat}(P:Pm n r p){Q:Nat->Shared->Prop}{k:Nat}(hk:k < n)(hu:Up r p k):∀ (f l q:Nat),l≤q->q≤k->q - l≤f->(∀ j,j < l->r (p.getD j 0) < r (p.getD k 0))->(∀ j,q≤j->j < k->r (p.getD k 0) < r (p.getD j 0)) →
 (∀ l',l'≤k->(∀ j,j < l'->r (p.getD j 0) < r (p.getD k 0))->(∀ j,l'≤j->j < k->r (p.getD k 0) < r (p.getD j 0))->Q l' s)->(kas_place p k f l q).kasWp cmp Q s
 | 0,l,q,h1,h2,h3,h4,h5,hQ=>hQ l (by omega) h4 fun j h6 h7=>h5 j (by omega) h7
 | f + 1,l,q,h1,h2,h3,h4,h5,hQ=>by
   unfold kas_place
   by_cases h:l ≥ q
   ·rw [if_pos h]
    exact hQ l (by omega) h4 fun j h6 h7=>h5 j (by omega) h7
   ·rw [if_neg h]
    refine hc _ _ _ (P.lt k hk) (P.lt ((l + q) / 2) (by omega)) (P.nq k ((l + q) / 2) hk (by omega) (by omega)) ?_
    have ne:=P.ne k ((l + q) / 2) hk (by omega) (by omega)
    by_cases z:r (p.getD k 0) < r (p.getD ((l + q) / 2) 0)
    ·rw [decide_eq_true z]
     refine jR hc P hk hu f l ((l + q) / 2) (by omega) (by omega) (by omega) h4 (fun j h6 h7=>?_) hQ
     by_cases e:j=(l + q) / 2
     ·subst e; exact z
     ·exact Nat.lt_trans z (hu _ _ (by omega) h7)
    ·rw [decide_eq_false z]
     refine jR hc P hk hu f ((l + q) / 2 + 1) q (by omega) h2 (by omega) (fun j h6=>?_) h5 hQ
     by_cases e:j=(l + q) / 2
     ·subst e; omega
     ·have:=hu j ((l + q) / 2) (by omega) (by omega)
      omega
theorem tU {p:Array Nat}{k l j:Nat}(hk:k < p.size)(hl:l≤k)(hj:j < p.size):(bubble p k (k - l)).getD j 0=if j=l then p.getD k 0 else if l < j∧j≤k then p.getD (j - 1) 0 else p.getD j 0:=by
 have e:=getElem?_bubble hk (k - l) (by omega) j
 rw [show k - (k - l)=l by omega,getD_some (by rw [bubble_size]; exact hj)] at e
 by_cases h1:j=l
 ·rw [if_pos h1,getD_some hk] at e
  rw [if_pos h1]
  exact Option.some.inj e
 ·rw [if_neg h1] at e ⊢
  by_cases h2:l < j∧j≤k
  ·rw [if_pos h2,getD_some (by omega)] at e
   rw [if_pos h2]
   exact Option.some.inj e
  ·rw [if_neg h2,getD_some hj] at e
   rw [if_neg h2]
   exact Option.some.inj e
theorem vV (inj:∀ i j,i < n->j < n->i≠j->r i≠r j)(hc:∀ i j C,i < n->j < n->i≠j->C (decide (r i < r j)) s->cmp i j C s){Q:Array Nat->Shared->Prop}(hQ:∀ p',Pm n r p'->Up r p' n->Q p' s):∀ (f:Nat)(p:Array Nat)(k:Nat),Pm n r p->k + f=n->Up r p k->(kas_bin f p k).kasWp cmp Q s
 | 0,p,k,P,hk,hu=>hQ p P (by rw [← hk]; exact hu)
 | f + 1,p,k,P,hk,hu=>by
   unfold kas_bin
   rw [KasT.kasWp_bind]
   refine jR hc P (by omega) hu k 0 k (Nat.zero_le _) (Nat.le_refl _) (by omega) (fun j h=>by omega) (fun j h1 h2=>by omega) fun l h1 h2 h3=>?_
   have P':Pm n r (bubble p k (k - l)):=pk inj ((bubble_perm _ _ _).trans P.perm)
   refine vV inj hc hQ f _ (k + 1) P' (by omega) fun i j hij hj=>?_
   have sz:=P.size
   rw [tU (by omega) h1 (by omega),tU (by omega) h1 (by omega)]
   by_cases e1:i=l
   ·rw [if_pos e1,if_neg (by omega),if_pos ⟨by omega,by omega⟩]
    exact h3 _ (by omega) (by omega)
   ·rw [if_neg e1]
    by_cases e2:j=l
    ·rw [if_pos e2,if_neg (by omega)]
     exact h2 _ (by omega)
    ·rw [if_neg e2]
     by_cases e3:l < j
     ·rw [if_pos (show l < j∧j≤k from ⟨e3,by omega⟩)]
      by_cases e4:l < i
      ·rw [if_pos ⟨e4,by omega⟩]
       exact hu _ _ (by omega) (by omega)
      ·rw [if_neg (by omega)]
       exact hu _ _ (by omega) (by omega)
     ·rw [if_neg (by omega),if_neg (by omega)]
      exact hu _ _ hij (by omega)
theorem tJ (inj:∀ i j,i < n->j < n->i≠j->r i≠r j)(hc:∀ i j C,i < n->j < n->i≠j->C (decide (r i < r j)) s->cmp i j C s)(h0:1≤n){Q:Array Nat->Shared->Prop}(hQ:∀ p',Pm n r p'->Up r p' n->Q p' s):(kas_sort n).kasWp cmp Q s:=by
 unfold kas_sort
 rw [KasT.kasWp_bind]
 refine yw inj hc h0 (pk inj (Array.Perm.refl _)) fun m p h1 h2 P hu=>?_
 show ((if m < n then kas_bin (n - max m 1) p (max m 1) else KasT.ret p).kasWp cmp Q s)
 by_cases h:m < n
 ·rw [if_pos h,show max m 1=m by omega]
  exact vV inj hc hQ _ _ _ P (by omega) hu
 ·rw [if_neg h]
  have e:m=n:=by omega
  subst e
  exact hQ p P hu
end
section
variable {prog:Program}{w:World}{A:Around}{E:Value->Shared->Prop}{s:Shared}
def n8 (prog:Program)(w:World)(A:Around)(ks:List Value)(r:Nat->Nat)(s:Shared):Prop :=
 ∃ κ,(∀ Q:SortKind->Shared->Prop,Q κ s->wpAny (model prog w) A (keyKind' ks.toArray) Q (fun _ _=>False) s)∧∀ i j C,i < ks.length->j < ks.length->i≠j->C (decide (r i < r j)) s->kas_ask prog w A κ ks i j C s
def cB (vs:List Value)(p:Array Nat):List Value:=p.toList.map fun i=>vs.getD i Value.none
theorem pZ (vs:List Value):cB vs (List.range vs.length).toArray=vs:=by
 unfold cB
 apply List.ext_getElem
 ·simp
 ·intro i h1 h2
  simp [h2]
theorem u6 {vs:List Value}{r:Nat->Nat}{p:Array Nat}(P:Pm vs.length r p):(cB vs p).length=vs.length:=by
 unfold cB
 rw [List.length_map,Array.length_toList,P.size]
theorem cO {n:Nat}(h:n < 64):n≤sizeLine:=by rw [sizeLine_eq]; omega
def wj (a:Addr)(h h':Heap):Prop:=∀ b o,b≠a->h.get? b=some o->h'.get? b=some o
theorem Ak {h:Heap}{a:Addr}{o1 o2:Obj}{g:Obj->Obj}:wj a h (((h.update a g).push o1).push o2):=fun b o hb e=>by
 refine Heap.get?_push_of_some _ (Heap.get?_push_of_some _ ?_)
 rw [Heap.get?_update_ne _ _ _ _ hb]; exact e
theorem nU {a:Addr}{vs:List Value}{n:Nat}{r:Nat->Nat}{P:PySem.Fin->Shared->Prop}(ho:s.heap.get? a=some (seqObj "list" vs.toArray n))(h64:vs.length < 64)
 (inj:∀ i j,i < vs.length->j < vs.length->i≠j->r i≠r j)
 (hk:2≤vs.length->∀ h',wj a s.heap h'->n8 prog w A vs r { s with heap:=h' })
 (hP:∀ h' p c,wj a s.heap h'->h'.get? a=some (seqObj "list" (cB vs p).toArray c)->Pm vs.length r p->Up r p vs.length->P (.done (.ret .none)) { s with heap:=h' }):
 wpAny (model prog w) A (Builtin.«list.sort» ⟨[.ref a],[]⟩) P E s:=by
 have ha:a < s.heap.objs.size:=Heap.lt_size ho
 obtain ⟨e1,ho1⟩:∃ e1,(s.heap.update a (Obj.mapSeq fun _=>(#[]:Array Value))).get? a=some (seqObj "list" #[] e1):=⟨_,get?_update_seq ho fun _=>#[]⟩
 rw [list_sort_plain]
 refine wpAny_bind (listItems_at ho rfl (wpAny_bind (listUpdate_at ho rfl (wpAny_bind (seqEpoch_at ho1 rfl (wpAny_bind (wpAny_newTuple (wpAny_bind (wpAny_newList ?_ (Nat.zero_le _))) (cO h64))))) (by rw [List.size_toArray]; exact cO h64) (Nat.zero_le _))))
 refine wpAny_holding (?_:wpAny (model prog w) A _ P E { s with heap:=((s.heap.update a (Obj.mapSeq fun _=>(#[]:Array Value))).push (seqObj "tuple" vs.toArray 0)).push (seqObj "list" #[] 0) })
 have kp:wj a s.heap (((s.heap.update a (Obj.mapSeq fun _=>(#[]:Array Value))).push (seqObj "tuple" vs.toArray 0)).push (seqObj "list" #[] 0)):=Ak
 have ho6:(((s.heap.update a (Obj.mapSeq fun _=>(#[]:Array Value))).push (seqObj "tuple" vs.toArray 0)).push (seqObj "list" #[] 0)).get? a=some (seqObj "list" #[] e1):=Heap.get?_push_of_some _ (Heap.get?_push_of_some _ ho1)
 generalize ((s.heap.update a (Obj.mapSeq fun _=>(#[]:Array Value))).push (seqObj "tuple" vs.toArray 0)).push (seqObj "list" #[] 0)=h6 at kp ho6 ⊢
 have fin:∀ p,Pm vs.length r p->Up r p vs.length->P (.done (.ret .none)) { s with heap:=h6.update a (Obj.mapSeq fun _=>(cB vs p).toArray) }:=fun p pm up=>by
  obtain ⟨c2,hc2⟩:∃ c2,(h6.update a (Obj.mapSeq fun _=>(cB vs p).toArray)).get? a=some (seqObj "list" (cB vs p).toArray c2):=⟨_,get?_update_seq ho6 fun _=>(cB vs p).toArray⟩
  exact hP _ p c2 (fun b o hb e=>by rw [Heap.get?_update_ne _ _ _ _ hb]; exact kp b o hb e) hc2 pm up
 have last:∀ p,Pm vs.length r p->(List.toArray (cB vs p)).size≤sizeLine:=fun p pm=>by rw [List.size_toArray,u6 pm]; exact cO h64
 dsimp only
 by_cases h2:vs.toArray.size < 2
 ·have small:vs.length < 2:=by simpa using h2
  rw [if_pos h2,if_pos h2]
  refine wpAny_bind (wpAny_pure ?_)
  rw [StateT.run_pure]
  refine wpAny_bind (wpAny_pure ?_)
  have hm:(arrOf (SortSt.mk' general' (vs.toArray.zip vs.toArray) #[] 7 none)).map (·.2)=(cB vs (List.range vs.length).toArray).toArray:=by
   rw [pZ]
   show (vs.toArray.zip vs.toArray).map (·.2)=vs.toArray
   apply Array.toList_inj.mp
   simp [List.map_snd_zip]
  have P0:Pm vs.length r (List.range vs.length).toArray:=pk inj (Array.Perm.refl _)
  have U0:Up r (List.range vs.length).toArray vs.length:=fun i j hij hj=>by omega
  dsimp only
  rw [hm]
  refine wpAny_bind (seqEpoch_at ho6 rfl (wpAny_bind (listUpdate_at ho6 rfl ?_ (Nat.zero_le _) (Nat.le_succ_of_le (last _ P0)))))
  simp only [bne_self_eq_false,Bool.false_eq_true,if_false]
  exact wpAny_pure (fin _ P0 U0)
 ·have big:2≤vs.length:=by simpa using h2
  rw [if_neg h2,if_neg h2]
  obtain ⟨κ,hkind,hask⟩:=hk big h6 kp
  refine wpAny_bind (wpAny_mono (hkind (fun κ' s0=>(kas_sort vs.length).kasWp (kas_ask prog w A κ' vs) (fun p s'=>s'={ s with heap:=h6 }∧Pm vs.length r p∧Up r p vs.length) s0) (tJ (n:=vs.length) (r:=r) inj hask (by omega) (Q:=fun p s'=>s'={ s with heap:=h6 }∧Pm vs.length r p∧Up r p vs.length) fun p pm up=>⟨rfl,pm,up⟩)) (fun κ' s0 hw=>?_) fun _ _ x=>x.elim)
  refine wpAny_bind (wpAny_mono (kat_run (κ:=κ') (Q:=fun st' s'=>∃ p:Array Nat,arrOf st'=p.map (kas_item (vs.toArray.zip vs.toArray))∧failedOf st'=none∧s'={ s with heap:=h6 }∧Pm vs.length r p∧Up r p vs.length) rfl big h64 (fun p' st' s' _ a2 a3 a4=>⟨p',a2,a3,a4⟩) hw) ?_ fun _ _ e=>e)
  rintro ⟨⟨⟩,st'⟩ s' ⟨p,har,hf,rfl,pm,up⟩
  dsimp only
  rw [kat_snds rfl har]
  refine wpAny_bind (seqEpoch_at ho6 rfl (wpAny_bind (listUpdate_at ho6 rfl ?_ (Nat.zero_le _) (Nat.le_succ_of_le (last _ pm)))))
  rw [hf]
  simp only [bne_self_eq_false,Bool.false_eq_true,if_false]
  exact wpAny_pure (fin p pm up)
theorem uw {l:Addr}{vs:List Value}{r:Nat->Nat}{Q:Value->Shared->Prop}(hl:s.heap.IsList l vs.toArray)(h64:vs.length < 64)
 (inj:∀ i j,i < vs.length->j < vs.length->i≠j->r i≠r j)
 (hk:2≤vs.length->∀ h',(∀ b o,s.heap.get? b=some o->h'.get? b=some o)->n8 prog w A.in1.in1 vs r { s with heap:=h' })
 (hQ:∀ h' D p c,(∀ b o,s.heap.get? b=some o->h'.get? b=some o)->s.heap.get? D=none->h'.get? D=some (seqObj "list" (cB vs p).toArray c)->Pm vs.length r p->Up r p vs.length->Q (.ref D) { s with heap:=h' }):
 wpAny (model prog w) A (call (.builtin "sorted") [.ref l]) Q E s:=by
 refine Calls.call_function_entry kind_sorted plain_sorted entry_sorted (args_sorted1 _) ?_
 unfold Builtin.«sorted»
 refine wpAny_bind (m:=checkCount "sorted" 1 1 _) (wpAny_pure (wpAny_bind (collect_list hl (wpAny_bind (wpAny_newList ?_ (cO h64))) (cO h64))))
 have sz:((s.heap.push (seqObj "list" #[] 0)).update s.heap.objs.size (Obj.mapSeq (·++vs.toArray))).objs.size=s.heap.objs.size + 1:=by rw [Heap.size_update]; exact size_push' _ _
 have at1:(((s.heap.push (seqObj "list" #[] 0)).update s.heap.objs.size (Obj.mapSeq (·++vs.toArray))).push (seqObj "list" vs.toArray 0)).get? (s.heap.objs.size + 1)=some (seqObj "list" vs.toArray 0):=by
  rw [← sz]; exact Heap.get?_push_size _ rfl
 have old:∀ b o,s.heap.get? b=some o->(((s.heap.push (seqObj "list" #[] 0)).update s.heap.objs.size (Obj.mapSeq (·++vs.toArray))).push (seqObj "list" vs.toArray 0)).get? b=some o:=fun b o q=>by
  have lt:b < s.heap.objs.size:=Heap.lt_size q
  refine Heap.get?_push_of_some _ ?_
  rw [Heap.get?_update_ne _ _ _ _ (Nat.ne_of_lt lt)]; exact Heap.get?_push_of_some _ q
 have new:s.heap.get? (s.heap.objs.size + 1)=none:=Heap.get?_none_of_le (Nat.le_succ _)
 show wpAny _ _ _ _ _ { s with heap:=((s.heap.push (seqObj "list" #[] 0)).update s.heap.objs.size (Obj.mapSeq (·++vs.toArray))).push (seqObj "list" vs.toArray 0) }
 rw [sz]
 generalize ((s.heap.push (seqObj "list" #[] 0)).update s.heap.objs.size (Obj.mapSeq (·++vs.toArray))).push (seqObj "list" vs.toArray 0)=h5 at at1 old ⊢
 have kp:∀ h',wj (s.heap.objs.size + 1) h5 h'->∀ b o,s.heap.get? b=some o->h'.get? b=some o:=fun h' k b o q=>k b o (fun z=>by rw [z,new] at q; cases q) (old b o q)
 refine wpAny_bind (wpAny_holding (wpAny_call_entry slot_list_sort ⟨_,at1,rfl⟩ entry_list_sort (nU (s:={ s with heap:=h5 }) (r:=r) at1 h64 inj (fun b h' k=>hk b h' (kp h' k)) fun h' p c k e pm up=>⟨_,rfl,?_⟩) (args_list_sort _)))
 exact wpAny_pure ⟨_,rfl,hQ h' _ p c (kp h' k) new e pm up⟩
end
open L2
abbrev Ky:=Int × List Int
def jJ (a b:Ky):Bool:=if a.1=b.1 then HT.cD a.2 b.2 else decide (a.1 < b.1)
theorem jI:∀ xs:List Int,HT.cD xs xs=false
 | []=>rfl
 | x :: xs=>by rw [HT.du,if_pos rfl]; exact jI xs
theorem lH:∀ {xs ys zs:List Int},HT.cD xs ys=true->HT.cD ys zs=true->HT.cD xs zs=true
 | [],[],_,h,_=>by cases h
 | [],y :: ys,[],_,h=>by cases h
 | [],y :: ys,z :: zs,_,_=>rfl
 | x :: xs,[],_,h,_=>by cases h
 | x :: xs,y :: ys,[],_,h=>by cases h
 | x :: xs,y :: ys,z :: zs,h1,h2=>by
   rw [HT.du] at h1 h2 ⊢
   by_cases e1:x=y
   ·rw [if_pos e1] at h1
    by_cases e2:y=z
    ·rw [if_pos e2] at h2
     rw [if_pos (e1.trans e2)]
     exact lH h1 h2
    ·rw [if_neg e2] at h2
     rw [e1,if_neg e2]
     exact h2
   ·rw [if_neg e1] at h1
    have l1:=of_decide_eq_true h1
    by_cases e2:y=z
    ·rw [← e2,if_neg e1]
     exact h1
    ·rw [if_neg e2] at h2
     have l2:=of_decide_eq_true h2
     rw [if_neg (by omega)]
     exact decide_eq_true (by omega)
theorem lF:∀ {xs ys:List Int},xs≠ys->HT.cD xs ys=true∨HT.cD ys xs=true
 | [],[],h=>absurd rfl h
 | [],y :: ys,_=>.inl rfl
 | x :: xs,[],_=>.inr rfl
 | x :: xs,y :: ys,h=>by
   rw [HT.du,HT.du]
   by_cases e:x=y
   ·subst e
    rw [if_pos rfl,if_pos rfl]
    exact lF fun z=>h (by rw [z])
   ·rw [if_neg e,if_neg (Ne.symm e)]
    simp only [decide_eq_true_eq]
    omega
theorem ju (a:Ky):jJ a a=false:=by unfold jJ; rw [if_pos rfl]; exact jI _
theorem iC {a b c:Ky}(h1:jJ a b=true)(h2:jJ b c=true):jJ a c=true:=by
 unfold jJ at h1 h2 ⊢
 by_cases e1:a.1=b.1
 ·rw [if_pos e1] at h1
  by_cases e2:b.1=c.1
  ·rw [if_pos e2] at h2
   rw [if_pos (e1.trans e2)]
   exact lH h1 h2
  ·rw [if_neg e2] at h2
   rw [e1,if_neg e2]
   exact h2
 ·rw [if_neg e1] at h1
  have l1:=of_decide_eq_true h1
  by_cases e2:b.1=c.1
  ·rw [← e2,if_neg e1]
   exact h1
  ·rw [if_neg e2] at h2
   have l2:=of_decide_eq_true h2
   rw [if_neg (by omega)]
   exact decide_eq_true (by omega)
theorem iM {a b:Ky}(h:a≠b):jJ a b=true∨jJ b a=true:=by
 unfold jJ
 by_cases e:a.1=b.1
 ·rw [if_pos e,if_pos e.symm]
  exact lF fun z=>h (Prod.ext e z)
 ·rw [if_neg e,if_neg (Ne.symm e)]
  simp only [decide_eq_true_eq]
  omega
def cy (ks:List Ky)(i:Nat):Ky:=ks.getD i (0,[])
def rk (ks:List Ky)(i:Nat):Nat:=(List.range ks.length).countP fun j=>jJ (cy ks j) (cy ks i)
theorem lL {α:Type}{p q:α->Bool}:∀ {l:List α},(∀ x∈l,p x=true->q x=true)->(∃ x∈l,q x=true∧p x=false)->l.countP p < l.countP q
 | [],_,⟨x,hx,_⟩=>by cases hx
 | a :: l,h,⟨x,hx,h1,h2⟩=>by
   have le:∀ l':List α,(∀ x∈l',p x=true->q x=true)->l'.countP p≤l'.countP q:=fun l' h'=>List.countP_mono_left h'
   rw [List.countP_cons,List.countP_cons]
   rcases List.mem_cons.mp hx with rfl | hx
   ·rw [if_pos h1,if_neg (by rw [h2]; exact Bool.false_ne_true)]
    have:=le l fun x hx=>h x (List.mem_cons_of_mem _ hx)
    omega
   ·have ih:=lL (l:=l) (fun x hx=>h x (List.mem_cons_of_mem _ hx)) ⟨x,hx,h1,h2⟩
    have h0:=h a List.mem_cons_self
    cases e:p a with
    | false=>simp only [Bool.false_eq_true,if_false]; omega
    | true=>rw [h0 e]; simp only [if_true]; omega
theorem gJ {ks:List Ky}{i j:Nat}(hi:i < ks.length)(h:jJ (cy ks i) (cy ks j)=true):rk ks i < rk ks j :=
 lL (fun l _ hl=>iC hl h) ⟨i,List.mem_range.mpr hi,h,ju _⟩
theorem yB {ks:List Ky}{i j:Nat}(hi:i < ks.length)(hj:j < ks.length):decide (rk ks i < rk ks j)=jJ (cy ks i) (cy ks j):=by
 cases e:jJ (cy ks i) (cy ks j) with
 | true=>exact decide_eq_true (gJ hi e)
 | false =>
   refine decide_eq_false fun z=>?_
   by_cases k:cy ks i=cy ks j
   ·unfold rk at z
    rw [k] at z
    exact Nat.lt_irrefl _ z
   ·rcases iM k with h | h
    ·rw [e] at h; cases h
    ·exact Nat.lt_asymm z (gJ hj h)
theorem xp {ks:List Ky}(nd:ks.Nodup):∀ i j,i < ks.length->j < ks.length->i≠j->rk ks i≠rk ks j:=fun i j hi hj hne z=>by
 have k:cy ks i≠cy ks j:=fun e=>by
  have e':ks[i]=ks[j]:=by
   unfold cy at e
   simpa [hi,hj] using e
  have pw:=List.pairwise_iff_getElem.mp (show ks.Pairwise (· ≠ ·) from nd)
  rcases Nat.lt_or_gt_of_ne hne with l | l
  ·exact pw i j _ _ l e'
  ·exact pw j i _ _ l e'.symm
 rcases iM k with h | h
 ·have:=gJ hi h; omega
 ·have:=gJ hj h; omega
def r6 (K:Frag)(H:Hp)(x:V)(k:Ky):Prop:=∃ a b rest,x = .ref a∧bf K H a (.int k.1 :: .ref b :: rest)∧bf K H b (k.2.map V.int)
def cN (K:Frag)(H:Hp):List V->List Ky->Prop
 | [],[]=>True
 | x :: xs,k :: ks=>r6 K H x k∧cN K H xs ks
 | _,_=>False
theorem cN.len {K:Frag}{H:Hp}:∀ {xs:List V}{ks:List Ky},cN K H xs ks->xs.length=ks.length
 | [],[],_=>rfl
 | _ :: _,_ :: _,⟨_,r⟩=>congrArg (· + 1) r.len
 | [],_ :: _,h=>h.elim
 | _ :: _,[],h=>h.elim
theorem cN.get {K:Frag}{H:Hp}:∀ {xs:List V}{ks:List Ky}{i:Nat}{x:V},cN K H xs ks->xs[i]?=some x->r6 K H x (cy ks i)
 | x :: xs,k :: ks,0,y,⟨h,_⟩,e=>by simp at e; subst e; exact h
 | x :: xs,k :: ks,i + 1,y,⟨_,r⟩,e=>by
   have:=r.get (i:=i) (x:=y) (by simpa using e)
   simpa [cy] using this
 | [],[],i,y,_,e=>by simp at e
 | [],_ :: _,_,_,h,_=>h.elim
 | _ :: _,[],_,_,h,_=>h.elim
theorem cV {K:Frag}{H:Hp}:∀ ns:List Int,bF K H (ns.map D.int) (ns.map V.int)
 | []=>by unfold bF; rfl
 | n :: ns=>by unfold bF; exact ⟨_,_,rfl,by unfold aN; rfl,cV ns⟩
theorem xj (ns:List Int):i4 (.tup (ns.map D.int))≤1:=by
 unfold i4
 have:∀ ms:List Int,dC (ms.map D.int)=0:=fun ms=>by
  induction ms with
  | nil=>unfold dC; rfl
  | cons m ms ih=>rw [List.map_cons]; unfold dC; rw [ih]; unfold i4; rfl
 rw [this]
 omega
theorem oq:∀ ns ms:List Int,cz (ns.map D.int) (ms.map D.int)=decide (ns=ms)
 | [],[]=>by unfold cz; simp
 | [],m :: ms=>by unfold cz; simp
 | n :: ns,[]=>by unfold cz; simp
 | n :: ns,m :: ms=>by
   rw [List.map_cons,List.map_cons]
   unfold cz
   rw [oq ns ms]
   unfold df
   by_cases e:n=m
   ·subst e; simp
   ·simp [e]
section
variable {X:Cx}{pins:List (Addr × Obj)}{σ:L2.St}{H:Hp}{s:Shared}
theorem zc {A:Around}{x y:V}{u v:Value}{k j:Ky}{C:Bool->Shared->Prop}{E:Value->Shared->Prop}(I:Inv X pins σ H s)(hA:A.units + 2 < cLine)(hx:r6 X.K H x k)(hy:r6 X.K H y j)(rx:aE x u)(ry:aE y v)(ne:k≠j)(h:C (jJ k j) s):
 wpAny (model X.prog X.w) A (keyLt' (tuples' true) u v) C E s:=by
 obtain ⟨a,b,rest,rfl,h1,h2⟩:=hx
 obtain ⟨a',b',rest',rfl,h1',h2'⟩:=hy
 cases (show u=Value.ref a from rx)
 cases (show v=Value.ref a' from ry)
 obtain ⟨its,r1,⟨o1,g1,_,n1,d1⟩,_⟩:=I.tuple h1
 obtain ⟨its',r1',⟨o1',g1',_,n1',d1'⟩,_⟩:=I.tuple h1'
 refine kat_lt g1 d1 g1' d1' ?_
 cases r1 with
 | cons q1 r1 =>
   cases r1 with
   | cons q2 r1 =>
     cases r1' with
     | cons q1' r1' =>
       cases r1' with
       | cons q2' r1' =>
         obtain ⟨t,rfl⟩:=q1
         obtain ⟨t',rfl⟩:=q1'
         rename_i w2 _ w2' _
         cases (show w2=Value.ref b from q2)
         cases (show w2'=Value.ref b' from q2')
         show KatLex _ _ _ _ _ _ ((Value.int k.1 t,Value.int j.1 t'):: (Value.ref b,Value.ref b'):: _) 0 s
         refine kat_cons (SeqAt.EqAt.int_int k.1 t j.1 t' X.prog X.w _ _ ?_)
         have klt_def:jJ k j=if k.1=j.1 then HT.cD k.2 j.2 else decide (k.1 < j.1):=rfl
         refine kat_go (fun e=>kat_yes ?_) fun e=>kat_no ?_
         ·have e1:k.1=j.1:=by simpa using e
          have n2:k.2≠j.2:=fun z=>ne (Prod.ext e1 z)
          have dd:=(iI I 1 A (.tup (k.2.map D.int)) (.tup (j.2.map D.int)) (.ref b) (.ref b') (.ref b) (.ref b') (xj _) (by omega) (by unfold aN; exact ⟨b,_,rfl,h2,cV _⟩) (by unfold aN; exact ⟨b',_,rfl,h2',cV _⟩) rfl rfl).2.1
          have e2:df (.tup (k.2.map D.int)) (.tup (j.2.map D.int))=false:=by unfold df; rw [oq]; exact decide_eq_false n2
          rw [e2] at dd
          refine kat_cons (dd X.prog X.w _ _ (kat_no ?_))
          rw [klt_def,if_pos e1] at h
          obtain ⟨its2,p2,t2,_⟩:=I.tuple h2
          obtain ⟨its2',p2',t2',_⟩:=I.tuple h2'
          exact kat_one _ _ (HT.qc t2 t2' (km p2) (km p2') (by omega) h)
         ·have e1:k.1≠j.1:=by simpa using e
          rw [klt_def,if_neg e1] at h
          exact oneLt_int h
theorem zY (I:Inv X pins σ H s)(xs:List V):∀ (ks:List Ky)(us:List Value),cN X.K H xs ks->aG xs us->∃ fs:List Value,KatTups s.heap us fs∧fs.length=us.length∧∀ f∈fs,∃ i t,f=Value.int i t:=by
 induction xs with
 | nil =>
   intro ks us _ r
   cases r
   exact ⟨[],.nil,rfl,fun f hf=>by cases hf⟩
 | cons x xs ih =>
   intro ks us h r
   cases ks with
   | nil=>exact h.elim
   | cons k ks =>
     cases r with
     | cons rx rv =>
       rename_i u us
       obtain ⟨⟨a,b,rest,e,h1,_⟩,hr⟩:=h
       obtain ⟨fs,t,hl,hf⟩:=ih ks us hr rv
       subst e
       cases (show u=Value.ref a from rx)
       obtain ⟨its,r1,⟨o1,g1,c1,n1,d1⟩,_⟩:=I.tuple h1
       cases r1 with
       | cons q1 r1 =>
         obtain ⟨tk,rfl⟩:=q1
         refine ⟨Value.int k.1 tk :: fs,.cons g1 c1 d1 rfl t,by simp [hl],fun f hf'=>?_⟩
         rcases List.mem_cons.mp hf' with rfl | z
         ·exact ⟨_,_,rfl⟩
         ·exact hf f z
theorem jy {A:Around}{xs:List V}{ks:List Ky}{us:List Value}(I:Inv X pins σ H s)(hA:A.units + 2 < cLine)(hk:cN X.K H xs ks)(rv:aG xs us)(nd:ks.Nodup)(h2:2≤us.length):n8 X.prog X.w A us (rk ks) s:=by
 obtain ⟨fs,t,hl,hf⟩:=zY I xs ks us hk rv
 have len1:=hk.len
 have len2:=rv.length
 refine ⟨tuples' true,fun Q hq=>kat_kind (T:=Value.type "int") t (by omega) (fun v hv=>?_) (by decide) hq,fun i j C hi hj hne hc=>?_⟩
 ·obtain ⟨i,tk,rfl⟩:=hf v hv
  exact .now
 ·have gi:∃ x,xs[i]?=some x∧aE x (us.getD i .none):=by
   have hi':i < xs.length:=by omega
   obtain ⟨u,e,r⟩:=rv.get (i:=i) (x:=xs[i]) (by simp [hi'])
   refine ⟨xs[i],by simp [hi'],?_⟩
   rw [List.getD_eq_getElem?_getD,e]
   exact r
  have gj:∃ x,xs[j]?=some x∧aE x (us.getD j .none):=by
   have hj':j < xs.length:=by omega
   obtain ⟨u,e,r⟩:=rv.get (i:=j) (x:=xs[j]) (by simp [hj'])
   refine ⟨xs[j],by simp [hj'],?_⟩
   rw [List.getD_eq_getElem?_getD,e]
   exact r
  obtain ⟨x,ex,rx⟩:=gi
  obtain ⟨y,ey,ry⟩:=gj
  rw [yB (by omega) (by omega)] at hc
  have kne:cy ks i≠cy ks j:=fun z=>by
   have e':ks[i]'(by omega)=ks[j]'(by omega):=by
    unfold cy at z
    simpa [show i < ks.length by omega,show j < ks.length by omega] using z
   have pw:=List.pairwise_iff_getElem.mp (show ks.Pairwise (· ≠ ·) from nd)
   rcases Nat.lt_or_gt_of_ne hne with l | l
   ·exact pw i j _ _ l e'
   ·exact pw j i _ _ l e'.symm
  exact zc I hA (hk.get ex) (hk.get ey) rx ry kne hc
end
section
variable {α:Type}
def lr (k:Ky)(x:α):List (Ky × α)->List (Ky × α)
 | []=>[(k,x)]
 | (j,y):: r=>if jJ k j=true then (k,x):: (j,y):: r else (j,y):: lr k x r
def cK:List (Ky × α)->List (Ky × α)
 | []=>[]
 | (k,x):: r=>lr k x (cK r)
theorem iH (k:Ky)(x:α):∀ l:List (Ky × α),(lr k x l).Perm ((k,x):: l)
 | []=>.refl _
 | (j,y):: r=>by
   unfold lr
   split
   ·exact .refl _
   ·exact ((iH k x r).cons _).trans (.swap _ _ _)
theorem cu:∀ l:List (Ky × α),(cK l).Perm l
 | []=>.refl _
 | (k,x):: r=>(iH k x _).trans ((cu r).cons _)
def AQ (l:List (Ky × α)):Prop:=l.Pairwise fun a b=>jJ a.1 b.1=true
theorem se {k:Ky}{x:α}:∀ {l:List (Ky × α)},AQ l->(∀ p∈l,p.1≠k)->AQ (lr k x l)
 | [],_,_=>List.pairwise_singleton _ _
 | (j,y):: r,h,hn=>by
   obtain ⟨h1,h2⟩:=List.pairwise_cons.mp h
   unfold lr
   by_cases e:jJ k j=true
   ·rw [if_pos e]
    refine List.pairwise_cons.mpr ⟨fun p hp=>?_,h⟩
    rcases List.mem_cons.mp hp with rfl | hp
    ·exact e
    ·exact iC e (h1 p hp)
   ·rw [if_neg e]
    have jk:jJ j k=true:=(iM (hn _ List.mem_cons_self)).resolve_right e
    refine List.pairwise_cons.mpr ⟨fun p hp=>?_,se h2 fun p hp=>hn p (List.mem_cons_of_mem _ hp)⟩
    rcases List.mem_cons.mp ((iH k x r).mem_iff.mp hp) with rfl | hp
    ·exact jk
    ·exact h1 p hp
theorem kj:∀ {l:List (Ky × α)},(l.map (·.1)).Nodup->AQ (cK l)
 | [],_=>.nil
 | (k,x):: r,h=>by
   obtain ⟨h1,h2⟩:=List.nodup_cons.mp h
   exact se (kj h2) fun p hp z=>h1 (z ▸ List.mem_map_of_mem (f:=(·.1)) ((cu r).mem_iff.mp hp))
theorem l0:∀ {l1 l2:List (Ky × α)},AQ l1->AQ l2->l1.Perm l2->l1=l2
 | [],l2,_,_,p=>(List.nil_perm.mp p).symm
 | a :: l1,[],_,_,p=>(List.nil_perm.mp p.symm)
 | a :: l1,b :: l2,h1,h2,p=>by
   obtain ⟨u1,v1⟩:=List.pairwise_cons.mp h1
   obtain ⟨u2,v2⟩:=List.pairwise_cons.mp h2
   have e:a=b:=by
    rcases List.mem_cons.mp (p.mem_iff.mp List.mem_cons_self) with z | z
    ·exact z
    ·rcases List.mem_cons.mp (p.mem_iff.mpr (List.mem_cons_self (a:=b) (l:=l2))) with w | w
     ·exact w.symm
     ·have c1:=u2 a z
      have c2:=u1 b w
      have c3:=iC c1 c2
      rw [ju] at c3
      cases c3
   subst e
   rw [l0 v1 v2 (List.Perm.cons_inv p)]
theorem yy {l1 l2:List (Ky × α)}(nd:(l2.map (·.1)).Nodup)(h:AQ l1)(p:l1.Perm l2):l1=cK l2:=l0 h (kj nd) (p.trans (cu l2).symm)
end
def CP (xs:List V)(p:Array Nat):List V:=p.toList.map fun i=>xs.getD i .non
theorem og {xs:List V}{us:List Value}(rv:aG xs us){n:Nat}{r:Nat->Nat}{p:Array Nat}(P:Pm n r p)(hn:n≤xs.length):aG (CP xs p) (cB us p):=by
 have key:∀ l:List Nat,(∀ i∈l,i < xs.length)->aG (l.map fun i=>xs.getD i .non) (l.map fun i=>us.getD i Value.none):=by
  intro l
  induction l with
  | nil=>intro _; exact .nil
  | cons i l ih =>
    intro h
    have hi:=h i List.mem_cons_self
    obtain ⟨u,e,r⟩:=rv.get (i:=i) (x:=xs[i]) (by simp [hi])
    refine .cons ?_ (ih fun j hj=>h j (List.mem_cons_of_mem _ hj))
    show aE (xs.getD i .non) (us.getD i Value.none)
    rw [List.getD_eq_getElem?_getD,List.getD_eq_getElem?_getD,e,show xs[i]?=some xs[i] by simp [hi]]
    exact r
 refine key p.toList fun i hi=>?_
 have z:i∈(List.range n):=by
  have pl:p.toList.Perm (List.range n):=by simpa using P.perm.toList
  exact pl.mem_iff.mp hi
 have:=List.mem_range.mp z
 omega
theorem pY {xs:List V}{ks:List Ky}(hl:xs.length=ks.length)(nd:ks.Nodup){p:Array Nat}(P:Pm xs.length (rk ks) p)(U:Up (rk ks) p xs.length):CP xs p=(cK (ks.zip xs)).map (·.2):=by
 have pl:p.toList.Perm (List.range xs.length):=by simpa using P.perm.toList
 have e1:(List.range xs.length).map (fun i=>(cy ks i,xs.getD i V.non))=ks.zip xs:=by
  apply List.ext_getElem
  ·simp [hl]
  ·intro i h1 h2
   have hi:i < xs.length:=by simpa using h1
   have hk:i < ks.length:=by omega
   simp [cy,hi,hk]
 have z:p.toList.map (fun i=>(cy ks i,xs.getD i V.non))=cK (ks.zip xs):=by
  refine yy ?_ ?_ ?_
  ·rw [List.map_fst_zip (by omega)]; exact nd
  ·unfold AQ
   rw [List.pairwise_map]
   refine List.pairwise_iff_getElem.mpr fun i j hi hj hij=>?_
   have sz:=P.size
   rw [Array.length_toList] at hi hj
   have u:=U i j hij (by omega)
   have gi:p.getD i 0=p.toList[i]:=by simp [Array.getD,hi]
   have gj:p.getD j 0=p.toList[j]:=by simp [Array.getD,hj]
   rw [gi,gj] at u
   have bi:p.toList[i] < ks.length:=by rw [← gi,← hl]; exact P.lt i (by omega)
   have bj:p.toList[j] < ks.length:=by rw [← gj,← hl]; exact P.lt j (by omega)
   rw [← yB bi bj]
   exact decide_eq_true u
  ·exact (pl.map _).trans (by rw [e1])
 rw [← z,List.map_map]
 rfl
def C9 (K:Frag):List V->Hp->VK->Prop:=fun vs H Q=>∃ l xs ks,vs=[.ref l]∧br K H l xs∧xs.length < 64∧cN K H xs ks∧ks.Nodup∧∀ D,H D=none->Q (.ref D) (upd H D (.lst ((cK (ks.zip xs)).map (·.2))))
section
variable {X:Cx}{k:Nat}
theorem pF (hr:Room (k + 2) X.A):bU X (.builtin "sorted") (C9 X.K):=by
 intro pins s σ H vs us Q I r h
 obtain ⟨l,xs,ks,rfl,hl,h64,hk,nd,q⟩:=h
 obtain ⟨u,rfl,ru⟩:=dH r
 cases (show u=Value.ref l from ru)
 obtain ⟨its,rv,pl,hz⟩:=I.list hl
 have ln:=rv.length
 have lk:=hk.len
 have inj:=xp nd
 refine uw (r:=rk ks) pl.isList (by omega) (fun i j hi hj=>inj i j (by omega) (by omega)) (fun h2 h' kp=>?_) fun h' D p c kp hD e pm up=>?_
 ·exact jy (s:={ s with heap:=h' }) (I.kept (t':=s.toks) kp) (by have:=(hr.in1.in1).units; omega) hk rv nd h2
 ·have pm':Pm xs.length (rk ks) p:=by rw [ln]; exact pm
  have up':Up (rk ks) p xs.length:=by rw [ln]; exact up
  have hv:=og rv pm' (Nat.le_refl _)
  rw [pY lk nd pm' up'] at hv
  have hlen:((cK (ks.zip xs)).map (·.2)).length≤sizeLine:=by
   rw [List.length_map,(cu _).length_eq,List.length_zip]
   exact Nat.le_trans (Nat.min_le_right _ _) (cO h64)
  exact ⟨.ref D,_,I.newObj (t':=s.toks) (o:=.lst ((cK (ks.zip xs)).map (·.2))) kp hD ⟨hlen,_,c,hv,e⟩,rfl,q D (I.hnone hD)⟩
end
def ml (sp:Sp):List V->Hp->(List V->Hp->Prop)->Prop
 | [],H,R=>R [] H
 | x :: xs,H,R=>sp [x] H (fun k H1=>ml sp xs H1 fun ks H2=>R (k :: ks) H2) fun _ _ _=>False
section
variable {X:Cx}{pins:List (Addr × Obj)}{σ:L2.St}{H:Hp}{s:Shared}
theorem uf {D:Addr}{o:HO}(I:Inv X pins σ H s)(f:cQ X pins H D)(hD:X.s₀.heap.objs.size≤D)(new:bc X.prog X.w (upd H D o) s.heap D o):Inv X pins σ (upd H D o) s:=by
 obtain ⟨f0,f1,f2,f3,f4,f5⟩:=f
 have u:=I.base
 refine ⟨I.ok,I.os,I.bare,⟨u.keep,u.slot,fun b' o' e n hx=>?_,u.there,fun b' xs e=>?_,fun b' o' u' e=>?_,fun b' ps e=>?_⟩,I.loc,I.cell,?_,fun x c e=>?_,fun p hp=>?_,dj I.hok f0 new,I.len⟩
 ·rw [aq (Nat.ne_of_lt (Nat.lt_of_lt_of_le (Heap.lt_size e) hD))]; exact u.free b' o' e n hx
 ·rw [aq (au (u.tups b' xs e) f0)]; exact u.tups b' xs e
 ·rw [aq (au (u.frzs b' o' u' e) f0)]; exact u.frzs b' o' u' e
 ·obtain ⟨m,q⟩:=u.tbls b' ps e
  exact ⟨m,by rw [aq (au q f0)]; exact q⟩
 ·rw [aq (Ne.symm f1)]; exact I.free
 ·rw [aq (f4 x c e)]; exact I.freeC x c e
 ·obtain ⟨e,n,r⟩:=I.pin p hp
  exact ⟨e,by rw [aq (f5 p hp)]; exact n,r⟩
theorem zk {b c:Addr}{ob:Obj}(f:cQ X pins H b)(h:c≠b):cQ X (pins++[(c,ob)]) H b:=by
 obtain ⟨f0,f1,f2,f3,f4,f5⟩:=f
 refine ⟨f0,f1,f2,f3,f4,fun p hp=>?_⟩
 rw [← List.append_assoc] at hp
 rcases List.mem_append.mp hp with z | z
 ·exact f5 p z
 ·have e:p=(c,ob):=by simpa using z
  subst e
  exact h
theorem nC {H':Hp}{b:Addr}(f:cQ X pins H b)(h:H' b=none):cQ X pins H' b:=⟨h,f.2⟩
theorem sM {b:Addr}{ob:Obj}(I:Inv X pins σ H s)(f:cQ X pins H b)(e:s.heap.get? b=some ob)(d:∀ v,ob.data ≠ .cell v):Inv X (pins++[(b,ob)]) σ H s:=I.pins_of fun p hp=>by
 rcases List.mem_append.mp hp with z | z
 ·exact I.pin p (List.mem_append_right _ z)
 ·have e1:p=(b,ob):=by simpa using z
  subst e1
  exact ⟨e,f.1,f.2.1,f.2.2.1,d⟩
theorem mz {b:Addr}{ob:Obj}(I:Inv X (pins++[(b,ob)]) σ H s):Inv X pins σ H s:=I.pins_of fun p hp=>I.pin p (List.mem_append_right _ (List.mem_append_left _ hp))
theorem vY {b:Addr}{ob:Obj}(I:Inv X (pins++[(b,ob)]) σ H s):s.heap.get? b=some ob∧H b=none:=by
 obtain ⟨e,n,_⟩:=I.pin (b,ob) (List.mem_append_right _ (List.mem_append_right _ (by simp)))
 exact ⟨e,n⟩
end
theorem jL {c:String}{xs:Array Value}{n:Nat}:∀ v,(seqObj c xs n).data ≠ .cell v:=fun v z=>by cases z
section
variable {X:Cx}{pins:List (Addr × Obj)}{σ:L2.St}{k:Nat}{f:Addr}{fd:FuncData}{ps:List Str}{sp:Sp}{A:Around}{E:Value->Shared->Prop}
theorem wV {H:Hp}{s:Shared}{x:V}{u:Value}{Q:VK}(F:FnOk X.prog X.w X.K X.mg X.base (bz X.prog X.w) k f fd ps sp)(hr:Room k A)(hA:∀ H s,Inv X pins σ H s->Env0 X.prog X.w X.K X.mg X.base A X.stack s H)(hb:aH X.K fd ps [])(I:Inv X pins σ H s)(r:aE x u)(h:sp [x] H Q fun _ _ _=>False):
 wpAny (model X.prog X.w) A (call (.ref f) [u]) (EP X pins σ Q) (fun _ _=>False) s:=by
 have hl:([u]:List Value).length + ([]:List Value).length=ps.length:=by have:=F.len _ _ _ _ h; simpa using this
 have bd:=hb s [u] I.kIn hl
 rw [List.append_nil] at bd
 refine wpAny_call (codeAny_mono (F.run A X.stack s H ⟨[u],[]⟩ [u] [x] Q _ hr (hA H s I) bd (.cons r .nil) h) fun res s' hq=>?_)
 cases res with
 | error e =>
   obtain ⟨a,cls,a0,B,d,H',_,_,_,_,hE⟩:=hq
   exact hE.elim
 | ok fl =>
   cases fl with
   | ret v=>exact I.after hq
   | next=>exact False.elim hq
   | brk=>exact False.elim hq
   | cont=>exact False.elim hq
end
abbrev j3 (X:Cx)(xs:List V)(Q:VK):List V->Hp->Prop:=fun ks H2=>∃ kz,cN X.K H2 ks kz∧kz.Nodup∧∀ D,H2 D=none->Q (.ref D) (upd H2 D (.lst ((cK (kz.zip xs)).map (·.2))))
section
variable {X:Cx}{pins:List (Addr × Obj)}{σ:L2.St}{k:Nat}{f:Addr}{fd:FuncData}{ps:List Str}{sp:Sp}{A:Around}{E:Value->Shared->Prop}
theorem zT {ks vs:List Value}(h:ks.length=vs.length):((ks.toArray.zip vs.toArray).map (·.2))=vs.toArray:=by
 apply Array.toList_inj.mp
 rw [Array.toList_map,ksk_zip]
 simp only [List.toList_toArray] at *
 exact List.map_snd_zip (by omega)
theorem ux {H:Hp}{s:Shared}{D kS:Addr}{e1 c:Nat}{xs kV:List V}{us ks:List Value}{Q:VK}{P:PySem.Fin->Shared->Prop}(hA:A.units + 2 < cLine)(hD:X.s₀.heap.objs.size≤D)(fD:cQ X pins H D)(fS:cQ X pins H kS)(ne:kS≠D)
 (I:Inv X pins σ H s)(eD:s.heap.get? D=some (seqObj "list" #[] e1))(eS:s.heap.get? kS=some (seqObj "list" ks.toArray c))(rx:aG xs us)(rk':aG kV ks)(hl:kV.length=xs.length)(h64:xs.length < 64)(w:j3 X xs Q kV H)
 (hP:∀ s',EP X pins σ Q (.ref D) s'->P (.done (.ret .none)) s'):wpAny (model X.prog X.w) A (ksk_end D false us.toArray e1 (.ref kS) ks.toArray) P E s:=by
 obtain ⟨kz,hk,nd,q⟩:=w
 have l1:=rx.length
 have l2:=rk'.length
 have l3:=hk.len
 have inj:=xp nd
 have fin:∀ p,Pm xs.length (rk kz) p->Up (rk kz) p xs.length->∀ st:SortSt,(arrOf st).map (·.2)=(cB us p).toArray->failedOf st=none->wpAny (model X.prog X.w) A (ksk_tail D false e1 (.ref kS) st) P E s:=fun p pm up st har hf=>by
  have vls:=og rx pm (Nat.le_refl _)
  rw [pY (by omega) nd pm up] at vls
  have hlen:((cK (kz.zip xs)).map (·.2)).length≤sizeLine:=by
   rw [List.length_map,(cu _).length_eq,List.length_zip]
   exact Nat.le_trans (Nat.min_le_right _ _) (cO h64)
  have olen:(cB us p).toArray.size≤sizeLine:=by rw [List.size_toArray,← vls.length]; exact hlen
  have sb1:=Heap.SameBut.update s.heap kS (Obj.mapSeq fun _=>(#[]:Array Value))
  have eD1:(s.heap.update kS (Obj.mapSeq fun _=>(#[]:Array Value))).get? D=some (seqObj "list" #[] e1):=(sb1.2 D (Ne.symm ne)).trans eD
  have I1:Inv X pins σ H { s with heap:=s.heap.update kS (Obj.mapSeq fun _=>(#[]:Array Value)) }:=cX I fS sb1
  unfold ksk_tail
  dsimp only
  rw [har]
  refine wpAny_bind (listUpdate_at eS rfl (wpAny_bind (wpAny_letGo ?_)) (by rw [List.size_toArray,← l2,hl]; exact cO h64) (Nat.zero_le _))
  generalize s.heap.update kS (Obj.mapSeq fun _=>(#[]:Array Value))=h1 at eD1 I1 ⊢
  have sb2:=Heap.SameBut.update h1 D (Obj.mapSeq fun _=>(cB us p).toArray)
  obtain ⟨c2,hc2⟩:∃ c2,(h1.update D (Obj.mapSeq fun _=>(cB us p).toArray)).get? D=some (seqObj "list" (cB us p).toArray c2):=⟨_,get?_update_seq eD1 fun _=>(cB us p).toArray⟩
  have I2:Inv X pins σ H { s with heap:=h1.update D (Obj.mapSeq fun _=>(cB us p).toArray) }:=cX (s:={ s with heap:=h1 }) I1 fD sb2
  have I3:=uf (o:=.lst ((cK (kz.zip xs)).map (·.2))) I2 fD hD ⟨hlen,_,c2,vls,hc2⟩
  refine wpAny_bind (seqEpoch_at eD1 rfl (wpAny_bind (listUpdate_at eD1 rfl ?_ (Nat.zero_le _) (Nat.le_succ_of_le olen))))
  rw [hf]
  simp only [bne_self_eq_false,Bool.false_eq_true,if_false]
  exact wpAny_pure (hP _ ⟨.ref D,_,I3,rfl,q D fD.1⟩)
 have P0:Pm xs.length (rk kz) (List.range xs.length).toArray:=pk (fun i j hi hj=>inj i j (by omega) (by omega)) (Array.Perm.refl _)
 unfold ksk_end
 dsimp only
 rw [if_neg Bool.false_ne_true]
 simp only [Bool.false_eq_true,if_false]
 by_cases h2:us.toArray.size < 2
 ·have small:xs.length < 2:=by rw [l1]; simpa using h2
  rw [if_pos h2,if_pos h2]
  refine wpAny_bind (wpAny_pure ?_)
  rw [StateT.run_pure]
  refine wpAny_bind (wpAny_pure ?_)
  refine fin (List.range xs.length).toArray P0 (fun i j hij hj=>by omega) _ ?_ rfl
  show (ks.toArray.zip us.toArray).map (·.2)=_
  rw [zT (by omega),l1,pZ]
 ·have big:2≤us.length:=by simpa using h2
  rw [if_neg h2,if_neg h2]
  obtain ⟨κ,hkind,hask⟩:=jy (A:=A) I hA hk rk' nd (by omega)
  refine wpAny_bind (wpAny_mono (hkind (fun κ' s0=>(kas_sort us.length).kasWp (kas_ask X.prog X.w A κ' ks) (fun p s'=>s'=s∧Pm us.length (rk kz) p∧Up (rk kz) p us.length) s0) (tJ (n:=us.length) (r:=rk kz) (fun i j hi hj=>inj i j (by omega) (by omega)) (fun i j C hi hj=>hask i j C (by omega) (by omega)) (by omega) fun p pm up=>⟨rfl,pm,up⟩)) (fun κ' s0 hw=>?_) fun _ _ x=>x.elim)
  refine wpAny_bind (wpAny_mono (kat_run (κ:=κ') (Q:=fun st' s'=>∃ p:Array Nat,arrOf st'=p.map (kas_item (ks.toArray.zip us.toArray))∧failedOf st'=none∧s'=s∧Pm us.length (rk kz) p∧Up (rk kz) p us.length) (by omega) big (by omega) (fun p' st' s' _ a2 a3 a4=>⟨p',a2,a3,a4⟩) hw) ?_ fun _ _ e=>e)
  rintro ⟨⟨⟩,st'⟩ s' ⟨p,har,hf,rfl,pm,up⟩
  exact fin p (by rw [l1]; exact pm) (by rw [l1]; exact up) st' (kat_snds (by omega) har) hf
theorem yu {α:Type}{l:List α}{j:Nat}{x:α}(h:l[j]?=some x):l.drop j=x :: l.drop (j + 1):=by
 obtain ⟨hj,e⟩:=List.getElem?_eq_some_iff.mp h
 rw [List.drop_eq_getElem_cons hj,e]
theorem kM {H:Hp}{s:Shared}{D:Addr}{n:Nat}{xs:List V}{us:List Value}{Q:VK}{P:PySem.Fin->Shared->Prop}(F:FnOk X.prog X.w X.K X.mg X.base (bz X.prog X.w) k f fd ps sp)(hr:Room k A)(hE:∀ pins' H s,Inv X pins' σ H s->Env0 X.prog X.w X.K X.mg X.base A X.stack s H)(hb:aH X.K fd ps [])
 (hD:X.s₀.heap.objs.size≤D)(fD:cQ X pins H D)(I:Inv X pins σ H s)(eD:s.heap.get? D=some (seqObj "list" us.toArray n))(rx:aG xs us)(h64:xs.length < 64)(h:ml sp xs H (j3 X xs Q))
 (hP:∀ s',EP X pins σ Q (.ref D) s'->P (.done (.ret .none)) s'):wpAny (model X.prog X.w) A (ksk_tree D (.ref f) false) P E s:=by
 have l1:=rx.length
 have s64:us.toArray.size≤sizeLine:=by rw [List.size_toArray,← l1]; exact cO h64
 obtain ⟨e1,eD1⟩:∃ e1,(s.heap.update D (Obj.mapSeq fun _=>(#[]:Array Value))).get? D=some (seqObj "list" #[] e1):=⟨_,get?_update_seq eD fun _=>#[]⟩
 have I1:Inv X pins σ H { s with heap:=s.heap.update D (Obj.mapSeq fun _=>(#[]:Array Value)) }:=cX I fD (Heap.SameBut.update _ _ _)
 unfold ksk_tree
 refine wpAny_bind (listItems_at eD rfl (wpAny_bind (listUpdate_at eD rfl (wpAny_bind (seqEpoch_at eD1 rfl (wpAny_bind (wpAny_newTuple ?_ (by show us.length≤_; rw [← l1]; exact cO h64))))) s64 (Nat.zero_le _))))
 refine wpAny_bind (wpAny_newList (wpAny_holding ?_) (Nat.zero_le _))
 generalize s.heap.update D (Obj.mapSeq fun _=>(#[]:Array Value))=h1 at eD1 I1 ⊢
 dsimp only
 have I2:Inv X pins σ H { s with heap:=h1.push (seqObj "tuple" us.toArray 0) }:=I1.kept (t':=s.toks) fun b o q=>Heap.get?_push_of_some _ q
 have eD2:(h1.push (seqObj "tuple" us.toArray 0)).get? D=some (seqObj "list" #[] e1):=Heap.get?_push_of_some _ eD1
 show wpAny (model X.prog X.w) A (ksk_rest D (.ref f) false us.toArray e1 (.ref (h1.push (seqObj "tuple" us.toArray 0)).objs.size)) P E { s with heap:=(h1.push (seqObj "tuple" us.toArray 0)).push (seqObj "list" #[] 0) }
 generalize h1.push (seqObj "tuple" us.toArray 0)=h2 at I2 eD2 ⊢
 have ne:h2.objs.size≠D:=Nat.ne_of_gt (Heap.lt_size eD2)
 have fS0:cQ X pins H h2.objs.size:=I2.fpOk (Nat.le_refl _) (I2.hok.fresh (Nat.le_refl _))
 have I3:Inv X pins σ H { s with heap:=h2.push (seqObj "list" #[] 0) }:=I2.kept (t':=s.toks) fun b o q=>Heap.get?_push_of_some _ q
 have eD3:(h2.push (seqObj "list" #[] 0)).get? D=some (seqObj "list" #[] e1):=Heap.get?_push_of_some _ eD2
 have eS3:(h2.push (seqObj "list" #[] 0)).get? h2.objs.size=some (seqObj "list" ([]:List Value).toArray 0):=Heap.get?_push_size _ rfl
 have fD':∀ {H':Hp},H' D=none->cQ X pins H' D:=fun z=>nC fD z
 have fS':∀ {H':Hp},H' h2.objs.size=none->cQ X pins H' h2.objs.size:=fun z=>nC fS0 z
 generalize h2.objs.size=kS at ne fS0 eS3 fS' ⊢
 unfold ksk_rest
 refine wpAny_bind (wpAny_rule ?_)
 rw [List.forIn_toArray]
 let II:Nat->Shared->Prop:=fun j s'=>∃ (H':Hp)(c:Nat)(kV:List V)(ks:List Value),Inv X (pins++[(D,seqObj "list" #[] e1)]) σ H' s'∧s'.heap.get? kS=some (seqObj "list" ks.toArray c)∧H' kS=none∧aG kV ks∧kV.length=j∧ml sp (xs.drop j) H' fun k2 H2=>j3 X xs Q (kV++k2) H2
 have I4:Inv X (pins++[(D,seqObj "list" #[] e1)]) σ H { s with heap:=h2.push (seqObj "list" #[] 0) }:=sM I3 fD eD3 jL
 refine wpAny_bind (wpAny_mono (ksk_fold (E:=E) (Q:=fun _ s'=>II us.length s') II us 0 { s with heap:=h2.push (seqObj "list" #[] 0) } ⟨H,0,[],[],I4,eS3,fS0.1,.nil,rfl,by simpa using h⟩ (fun j u s' hu hI=>?_) fun s' hd=>by simpa using hd) (fun _ s' hI=>?_) fun _ _ e=>e)
 ·rw [Nat.zero_add] at hI ⊢
  obtain ⟨H',c,kV,ks,J,eS,nS,rk',hl,t⟩:=hI
  have hj:j < us.length:=(List.getElem?_eq_some_iff.mp hu).1
  obtain ⟨x,hx⟩:∃ x,xs[j]?=some x:=⟨xs[j]'(by omega),by simp [show j < xs.length by omega]⟩
  obtain ⟨u',hu',rx'⟩:=rx.get hx
  rw [hu] at hu'
  cases hu'
  rw [yu hx] at t
  have fS1:cQ X (pins++[(D,seqObj "list" #[] e1)]) H' kS:=zk (fS' nS) (Ne.symm ne)
  have J2:=sM J fS1 eS jL
  refine wpAny_bind (wpAny_attempt (wpAny_mono (wV F hr (hE _) hb J2 rx' t) (fun kv s2 hk=>?_) fun _ _ z=>z.elim))
  obtain ⟨v,H2,J3,rv,t2⟩:=hk
  obtain ⟨eS2,nS2⟩:=vY J3
  have J4:=mz J3
  have fS2:cQ X (pins++[(D,seqObj "list" #[] e1)]) H2 kS:=nC fS1 nS2
  have ea:ks.toArray.push kv=(ks++[kv]).toArray:=by simp
  obtain ⟨c2,hc2⟩:∃ c2,(s2.heap.update kS (Obj.mapSeq (·.push kv))).get? kS=some (seqObj "list" (ks++[kv]).toArray c2):=⟨_,by rw [← ea]; exact get?_update_seq eS2 (·.push kv)⟩
  have lk:=rk'.length
  refine wpAny_bind (listUpdate_at eS2 rfl ?_ (by rw [List.size_toArray]; exact cO (by omega)) (Nat.le_trans (Nat.le_of_eq (Array.size_push ..)) (by rw [List.size_toArray]; exact Nat.succ_le_succ (cO (by omega)))))
  refine wpAny_pure ⟨rfl,H2,c2,kV++[v],ks++[kv],cX J4 fS2 (Heap.SameBut.update _ _ _),hc2,nS2,rk'.append (.cons rv .nil),by simp [hl],?_⟩
  have e:∀ k2:List V,kV++[v]++k2=kV++v :: k2:=fun k2=>by simp
  simp only [e]
  exact t2
 ·obtain ⟨H',c,kV,ks,J,eS,nS,rk',hl,t⟩:=hI
  rw [← l1,List.drop_length] at t
  have w:j3 X xs Q kV H':=by
   have z:j3 X xs Q (kV++[]) H':=t
   rwa [List.append_nil] at z
  obtain ⟨eD4,nD⟩:=vY J
  refine wpAny_bind (listItems_at eS rfl ?_)
  exact ux (by have:=hr.units; omega) hD (fD' nD) (fS' nS) ne (mz J) eD4 eS rx rk' (by omega) h64 w hP
theorem qe {H:Hp}{s:Shared}{l:Addr}{xs:List V}{Q:VK}(F:FnOk X.prog X.w X.K X.mg X.base (bz X.prog X.w) k f fd ps sp)(hr:Room (k + 2) X.A)(hb:aH X.K fd ps [])
 (I:Inv X pins σ H s)(hl:br X.K H l xs)(h64:xs.length < 64)(h:ml sp xs H (j3 X xs Q)):wpAny (model X.prog X.w) X.A (call (.builtin "sorted") [.ref l] [(Str.ofString "key",.ref f)]) (EP X pins σ Q) E s:=by
 obtain ⟨us,rx,pl,_⟩:=I.list hl
 have l1:=rx.length
 refine call_function_entry_kw kind_sorted plain_sorted entry_sorted (ksk_s1 _ _) ?_
 unfold Builtin.«sorted»
 refine wpAny_bind (m:=checkCount "sorted" 1 1 _) (wpAny_pure (wpAny_bind (collect_list pl.isList (wpAny_bind (wpAny_newList ?_ (cO (by omega)))) (cO (by omega)))))
 have sz:((s.heap.push (seqObj "list" #[] 0)).update s.heap.objs.size (Obj.mapSeq (·++us.toArray))).objs.size=s.heap.objs.size + 1:=by rw [Heap.size_update]; exact size_push' _ _
 have at1:(((s.heap.push (seqObj "list" #[] 0)).update s.heap.objs.size (Obj.mapSeq (·++us.toArray))).push (seqObj "list" us.toArray 0)).get? (s.heap.objs.size + 1)=some (seqObj "list" us.toArray 0):=by
  rw [← sz]; exact Heap.get?_push_size _ rfl
 have old:∀ b o,s.heap.get? b=some o->(((s.heap.push (seqObj "list" #[] 0)).update s.heap.objs.size (Obj.mapSeq (·++us.toArray))).push (seqObj "list" us.toArray 0)).get? b=some o:=fun b o q=>by
  have lt:b < s.heap.objs.size:=Heap.lt_size q
  refine Heap.get?_push_of_some _ ?_
  rw [Heap.get?_update_ne _ _ _ _ (Nat.ne_of_lt lt)]; exact Heap.get?_push_of_some _ q
 show wpAny _ _ _ _ _ { s with heap:=((s.heap.push (seqObj "list" #[] 0)).update s.heap.objs.size (Obj.mapSeq (·++us.toArray))).push (seqObj "list" us.toArray 0) }
 rw [sz]
 generalize ((s.heap.push (seqObj "list" #[] 0)).update s.heap.objs.size (Obj.mapSeq (·++us.toArray))).push (seqObj "list" us.toArray 0)=h5 at at1 old ⊢
 have I5:Inv X pins σ H { s with heap:=h5 }:=I.kept (t':=s.toks) old
 have fD:cQ X pins H (s.heap.objs.size + 1):=I.fpOk (Nat.le_succ _) (I.hok.fresh (Nat.le_succ _))
 refine wpAny_bind (wpAny_holding (wpAny_call_entry_kw slot_list_sort ⟨_,at1,rfl⟩ entry_list_sort ?body (ksk_l1 _ _)))
 case body =>
  show wpAny (model X.prog X.w) X.A.in1.in1 (Builtin.«list.sort» ⟨[.ref (s.heap.objs.size + 1)],[(Str.ofString "key",.ref f)]⟩) _ _ _
  rw [ksk_t1]
  exact kM (A:=X.A.in1.in1) F hr.in1.in1 (fun pins' H' s' J=>J.env0.in1.in1) hb (Nat.le_trans I.sz (Nat.le_succ _)) fD I5 at1 rx h64 h fun s' q=>⟨_,rfl,wpAny_pure ⟨_,rfl,q⟩⟩
end
def Cq (X:Cx)(sp:Sp)(ta:TE):TE:=fun σ H Q=>cT ta tNil σ H fun vs H1=>∃ l xs,vs=[.ref l]∧br X.K H1 l xs∧xs.length < 64∧ml sp xs H1 (j3 X xs Q)
section
variable {X:Cx}{k:Nat}{f:Addr}{fd:FuncData}{ps:List Str}{sp:Sp}{e:Expr}{ta:TE}{x:Str}{p p2 kpos pos:Pos}
theorem w9 (F:FnOk X.prog X.w X.K X.mg X.base (bz X.prog X.w) k f fd ps sp)(hr:Room (k + 2) X.A)(hb:aH X.K fd ps [])(hg:Gl X "sorted")(hm:X.mg "sorted"=none)(hgf:Gl X x)(hmf:X.mg x=some (.ref f))(ha:PE X e ta)(hs:fj e=false:=by rfl)(hd:(x == ("__debug__":Str))=false:=by decide):
 PE X (.Call (.Name "sorted" p) [e] [⟨some "key",.Name x p2,kpos⟩] pos) (Cq X sp ta):=by
 intro pins s σ H Q I h
 refine wpAny_Call_Name_kw (dm I hg hm (by rfl) ?_ (by decide) (by decide))
 refine callWith_builtin_kwB (by rw [bu hs]; rfl) rfl (evalArgs_kw2 rfl ?_ (bu hs))
 refine bH (aj ha ae hs pos pins s σ H _ I h) fun us s1 ⟨vs,H1,I1,r1,⟨l,xs,hv,hl,h64,ht⟩⟩=>?_
 subst hv
 cases r1 with
 | cons ra rb =>
   cases rb
   cases ra
   refine kwAll_cons (c4 I1 hgf hmf (kwAll_nil ?_) hd)
   exact qe F hr hb I1 hl h64 ht
end
end Srt
namespace K04
open PySem L2 PySem.W Nm Srt
theorem A9 {n:Nat}{p t b:Int}(hp:FP p)(h:B n t)(hb:b≠0)(hn:7≤n):B n (gz p t b):=by
 unfold gz
 by_cases z:p=0
 ·rw [if_pos z]
  exact h.le (rL hb)
 ·rw [if_neg z]
  obtain ⟨_,p2,p97⟩:=hp.two z
  have h0:=Int.emod_nonneg t (b:=p) (by omega)
  have h1:=Int.emod_lt_of_pos t (b:=p) (by omega)
  have:B 7 (t % p):=by
   show (t % p).natAbs < 2 ^ 7
   omega
  exact this.mono hn
theorem BJ {n:Nat}{p t b:Int}(h:B n b)(hb:b≠0)(hn:1≤n):B n (gq p t b):=by
 unfold gq
 by_cases z:p=0
 ·rw [if_pos z]
  exact h.le (sV hb)
 ·rw [if_neg z]
  exact (show B 1 (1:Int) from (by show (1:Int).natAbs < 2 ^ 1; decide)).mono hn
abbrev Tm:=List Int × Int × Int
def d8 (p:Int)(a b:Int × Int):Int × Int:=(gz p (jv a.1 a.2 b.1 b.2) (a.2 * b.2),gq p (jv a.1 a.2 b.1 b.2) (a.2 * b.2))
def Gn (p:Int)(n:Nat)(a:Int × Int):Prop:=Num p a.1 a.2∧B n a.1∧B n a.2
theorem Gn.ne {p:Int}{n:Nat}{a:Int × Int}(h:Gn p n a):a.2≠0:=by have:=h.1.pos; omega
theorem vD {p:Int}{n m:Nat}{a b:Int × Int}(hp:FP p)(ha:Gn p n a)(hb:Gn p m b)(h7:7≤n + m + 1):Gn p (n + m + 1) (d8 p a b):=by
 have nz:a.2 * b.2≠0:=Int.mul_ne_zero ha.ne hb.ne
 refine ⟨Num.set hp.nn nz,A9 hp ?_ nz h7,(BJ (n:=n + m) (ha.2.2.mul hb.2.2) nz (by omega)).mono (by omega)⟩
 have h1:B (n + m) (a.1 * b.2):=ha.2.1.mul hb.2.2
 have h2:B (n + m) (b.1 * a.2):=(hb.2.1.mul ha.2.2).mono (by omega)
 exact h1.add h2
theorem uM {p:Int}{n:Nat}{b:Int × Int}(hp:FP p)(hb:Gn p n b):d8 p (0,1) b=b:=by
 obtain ⟨h1,h2⟩:=hb.1.self hp.nn
 unfold d8 jv
 have e1:(0:Int) * b.2 + b.1 * 1=b.1:=by omega
 have e2:(1:Int) * b.2=b.2:=by omega
 rw [e1,e2,h1,h2]
def lq (p:Int)(d:List Tm)(t:Tm):List Tm:=if d.any (fun e=>decide (e.1=t.1))=true then d.map (fun e=>if e.1=t.1 then (e.1,d8 p e.2 t.2) else e) else d++[t]
def aX (p:Int)(ts:List Tm):List Tm:=ts.foldl (lq p) []
def oN (p:Int)(n:Nat)(d:List Tm):Prop:=∀ e∈d,Gn p n e.2
theorem uv {p:Int}{n m:Nat}{d:List Tm}{t:Tm}(hp:FP p)(hd:oN p n d)(ht:Gn p m t.2)(h7:7≤n + m + 1):oN p (n + m + 1) (lq p d t):=by
 have up:∀ e∈d,Gn p (n + m + 1) e.2:=fun e he=>⟨(hd e he).1,(hd e he).2.1.mono (by omega),(hd e he).2.2.mono (by omega)⟩
 unfold lq
 split
 ·intro e he
  obtain ⟨e0,h0,rfl⟩:=List.mem_map.mp he
  by_cases q:e0.1=t.1
  ·rw [if_pos q]; exact vD hp (hd e0 h0) ht h7
  ·rw [if_neg q]; exact up e0 h0
 ·intro e he
  rcases List.mem_append.mp he with he | he
  ·exact up e he
  ·have:e=t:=by simpa using he
   subst this
   exact ⟨ht.1,ht.2.1.mono (by omega),ht.2.2.mono (by omega)⟩
theorem vt {p:Int}{d:List Tm}{t:Tm}(hd:(d.map (·.1)).Nodup):((lq p d t).map (·.1)).Nodup:=by
 unfold lq
 split
 ·rw [List.map_map]
  have:((fun e:Tm=>e.1) ∘ fun e=>if e.1=t.1 then (e.1,d8 p e.2 t.2) else e)=fun e=>e.1:=by
   funext e
   show (if e.1=t.1 then (e.1,d8 p e.2 t.2) else e).1=e.1
   split <;> rfl
  rw [this]
  exact hd
 ·rename_i q
  rw [List.map_append]
  refine List.nodup_append.mpr ⟨hd,by simp,fun a ha b hb z=>?_⟩
  have:b=t.1:=by simpa using hb
  subst this
  subst z
  obtain ⟨e,he,e1⟩:=List.mem_map.mp ha
  exact q (List.any_eq_true.mpr ⟨e,he,by simpa using e1⟩)
theorem wm {p:Int}{d:List Tm}{t:Tm}:(lq p d t).length≤d.length + 1:=by
 unfold lq
 split <;> simp
def c5 (t:Tm):Ky:=(t.1.length,t.1)
def fh (d:List Tm):List Tm:=(cK ((d.filter fun e=>e.2.1 != 0).map fun e=>(c5 e,e))).map (·.2)
theorem il (p:Int)(ts:List Tm)(t:Tm):aX p (ts++[t])=lq p (aX p ts) t:=by
 unfold aX
 rw [List.foldl_append]
 rfl
theorem fB {p:Int}{m:Nat}(hp:FP p):∀ (n:Nat)(ts:List Tm),ts.length=n->(∀ t∈ts,Gn p m t.2)->oN p ((m + 1) * n + 7) (aX p ts)∧((aX p ts).map (·.1)).Nodup∧(aX p ts).length≤n
 | 0,ts,hn,_=>by
   have:ts=[]:=List.length_eq_zero_iff.mp hn
   subst this
   refine And.intro (fun e he=>?_) (And.intro List.nodup_nil (Nat.le_refl 0))
   exact absurd (show e∈([]:List Tm) from he) (by simp)
 | n + 1,ts,hn,h=>by
   obtain ⟨ini,t,rfl⟩:∃ ini t,ts=ini++[t]:=by
    have hne:ts≠[]:=by intro z; rw [z] at hn; cases hn
    exact ⟨ts.dropLast,ts.getLast hne,(List.dropLast_concat_getLast hne).symm⟩
   have hl:ini.length=n:=by simpa using hn
   obtain ⟨g1,g2,g3⟩:=fB hp n ini hl fun t ht=>h t (List.mem_append_left _ ht)
   rw [il]
   have gt:=h t (List.mem_append_right _ (by simp))
   have e2:(m + 1) * (n + 1)=(m + 1) * n + (m + 1):=Nat.mul_succ _ _
   refine ⟨fun e he=>?_,vt g2,Nat.le_trans wm (by omega)⟩
   have:=uv hp g1 gt (by omega) e he
   exact ⟨this.1,this.2.1.mono (by omega),this.2.2.mono (by omega)⟩
abbrev i6 (ks:List Int):List Key:=ks.map Sum.inl
theorem ip (ks:List Int):(i6 ks).map kV=ks.map V.int:=by unfold i6; rw [List.map_map]; rfl
theorem mX {a b:List Int}(h:i6 a=i6 b):a=b:=by
 have e:(i6 a).map kV=(i6 b).map kV:=by rw [h]
 rw [ip,ip] at e
 have inj:∀ {x y:List Int},x.map V.int=y.map V.int->x=y:=by
  intro x
  induction x with
  | nil=>intro y h; cases y with
    | nil=>rfl
    | cons c y=>simp at h
  | cons b x ih=>intro y h; cases y with
    | nil=>simp at h
    | cons c y =>
      rw [List.map_cons,List.map_cons] at h
      injection h with h1 h2
      injection h1 with h1
      rw [h1,ih h2]
 exact inj e
def xP (H:Hp)(y:V)(t:Tm):Prop:=∃ a pr nu,y = .ref a∧H a=some (.tup [.ref pr,.ref nu])∧H pr=some (.tup (t.1.map V.int))∧H nu=some (cj t.2.1 t.2.2)
abbrev bh (H:Hp):List V->List Tm->Prop:=Paired (xP H)
abbrev DR (H:Hp):List (List Key × V)->List Tm->Prop:=Paired fun kv e=>kv.1=i6 e.1∧∃ a,kv.2 = .ref a∧H a=some (cj e.2.1 e.2.2)
def aF (H H':Hp):Prop:=∀ b xs,H b=some (.tup xs)->H' b=some (.tup xs)
theorem aF.of {H H':Hp}(s:aA H H'):aF H H':=fun b xs e=>s b _ e
theorem aF.trans {H H1 H2:Hp}(a:aF H H1)(b:aF H1 H2):aF H H2:=fun c xs e=>b c xs (a c xs e)
theorem aF.upd {H:Hp}{d:Addr}{o:HO}(h:∀ xs,H d≠some (.tup xs)):aF H (upd H d o):=fun b xs e=>by
 have:b≠d:=fun z=>h xs (z ▸ e)
 rw [aq this]; exact e
theorem xP.keep {H H':Hp}{y:V}{t:Tm}(h:xP H y t)(k:aF H H'):xP H' y t:=let ⟨a,pr,nu,e,h1,h2,h3⟩:=h; ⟨a,pr,nu,e,k _ _ h1,k _ _ h2,k _ _ h3⟩
theorem bh.keep {H H':Hp}{ys:List V}{ts:List Tm}(h:bh H ys ts)(k:aF H H'):bh H' ys ts:=Paired.mapP h fun _ _ z=>z.keep k
theorem DR.keep {H H':Hp}{kvs:List (List Key × V)}{d:List Tm}(h:DR H kvs d)(k:aF H H'):DR H' kvs d:=Paired.mapP h fun _ _ z=>⟨z.1,let ⟨a,e,h⟩:=z.2; ⟨a,e,k _ _ h⟩⟩
theorem t6 {H:Hp}(k:List Int):∀ {kvs:List (List Key × V)}{d:List Tm},DR H kvs d->d.any (fun e=>decide (e.1=k))=false->iG kvs (i6 k)=none
 | _,_,.nil,_=>rfl
 | _,_,.cons (a:=kv) (b:=e) h t,q=>by
   rw [List.any_cons,Bool.or_eq_false_iff] at q
   have ne:¬ kv.1=i6 k:=fun z=>by
    have:e.1=k:=mX (h.1.symm.trans z)
    simp [this] at q
   rw [eP ne]
   exact t6 k t q.2
theorem jX {H:Hp}(k:List Int):∀ {kvs:List (List Key × V)}{d:List Tm},DR H kvs d->d.any (fun e=>decide (e.1=k))=true->∃ e∈d,e.1=k∧∃ a,iG kvs (i6 k)=some (.ref a)∧H a=some (cj e.2.1 e.2.2)
 | _,_,.nil,q=>by simp at q
 | _,_,.cons (a:=kv) (b:=e) h t,q=>by
   by_cases z:e.1=k
   ·obtain ⟨a,e1,ha⟩:=h.2
    refine ⟨e,List.mem_cons_self,z,a,?_,ha⟩
    rw [gH (by rw [h.1,z]),e1]
   ·have ne:¬ kv.1=i6 k:=fun w=>z (mX (h.1.symm.trans w))
    rw [List.any_cons,decide_eq_false z,Bool.false_or] at q
    obtain ⟨e',m,z',a,h1,h2⟩:=jX k t q
    exact ⟨e',List.mem_cons_of_mem _ m,z',a,by rw [eP ne]; exact h1,h2⟩
theorem Ce {H:Hp}(k:List Int){kvs:List (List Key × V)}{d:List Tm}(h:DR H kvs d):(kvs.any fun kv=>decide (kv.1=i6 k))=d.any fun e=>decide (e.1=k):=by
 rw [ki]
 cases q:d.any fun e=>decide (e.1=k) with
 | false=>rw [t6 k h q]; rfl
 | true =>
   obtain ⟨_,_,_,a,e,_⟩:=jX k h q
   rw [e]; rfl
theorem yC {H:Hp}{p:Int}{t:Tm}{a:Addr}{kvs:List (List Key × V)}{d:List Tm}(h:DR H kvs d)(nd:(d.map (·.1)).Nodup)
 (hno:d.any (fun e=>decide (e.1=t.1))=false->H a=some (cj t.2.1 t.2.2))(hyes:∀ e∈d,e.1=t.1->H a=some (cj (d8 p e.2 t.2).1 (d8 p e.2 t.2).2)):DR H (eF kvs (i6 t.1) (.ref a)) (lq p d t):=by
 unfold eF lq
 rw [Ce t.1 h]
 by_cases q:d.any (fun e=>decide (e.1=t.1))=true
 ·rw [if_pos q,if_pos q]
  have go:∀ {kvs:List (List Key × V)}{d:List Tm},DR H kvs d->(∀ e∈d,e.1=t.1->H a=some (cj (d8 p e.2 t.2).1 (d8 p e.2 t.2).2)) →
   DR H (kvs.map fun kv=>if kv.1=i6 t.1 then (kv.1,V.ref a) else kv) (d.map fun e=>if e.1=t.1 then (e.1,d8 p e.2 t.2) else e):=by
   intro kvs d h
   induction h with
   | nil=>intro _; exact .nil
   | @cons kv e ks es h0 ht ih =>
     intro hy
     rw [List.map_cons,List.map_cons]
     refine .cons ?_ (ih fun e' m=>hy e' (List.mem_cons_of_mem _ m))
     by_cases z:e.1=t.1
     ·rw [if_pos z,if_pos (by rw [h0.1,z])]
      exact ⟨h0.1,a,rfl,hy e List.mem_cons_self z⟩
     ·rw [if_neg z,if_neg (fun w=>z (mX (h0.1.symm.trans w)))]
      exact h0
  exact go h hyes
 ·have q':d.any (fun e=>decide (e.1=t.1))=false:=Bool.eq_false_iff.mpr q
  rw [if_neg q,if_neg q]
  exact Paired.snoc h ⟨rfl,a,rfl,hno q'⟩
abbrev xC:Stmt:=(bt 23)
def qm (C:Addr):Sp:=fun vs H Q _=>∃ (s dx l:Addr)(p:Int)(ys:List V)(ts:List Tm)(m:Nat),vs=[.ref s,.ref l]∧H s=some (.ins C dx (dD p))∧FP p∧H l=some (.lst ys)∧bh H ys ts∧ts.length < 64 ∧
 (∀ t∈ts,Gn p m t.2)∧(m + 1) * ts.length + 7≤4000∧m≤4000∧∀ H' D zs,aA H H'->H D=none->H' D=some (.lst zs)->bh H' zs (fh (aX p ts))->Q (.ref D) H'
theorem none_of {H H':Hp}{a:Addr}(s:aA H H')(h:H' a=none):H a=none:=by
 cases e:H a with
 | none=>rfl
 | some o=>rw [s _ _ e] at h; cases h
theorem iz:FnScope ["field","terms","totals","product","number","kept"] ["field","terms"] (ar xC):=eO (by decide +kernel)
theorem lP {α β:Type}{R:α->β->Prop}{k:Ky}{x:α}{y:β}(h:R x y):∀ {l:List (Ky × α)}{m:List (Ky × β)},Paired (fun a b=>a.1=b.1∧R a.2 b.2) l m->Paired (fun a b=>a.1=b.1∧R a.2 b.2) (lr k x l) (lr k y m)
 | _,_,.nil=>.cons ⟨rfl,h⟩ .nil
 | _,_,.cons (a:=(j,u)) (b:=(j',v)) (l₁:=r) (l₂:=r') h0 t=>by
   obtain ⟨e,h1⟩:=h0
   have e:j=j':=e
   subst e
   show Paired _ (if jJ k j=true then (k,x):: (j,u):: r else (j,u):: lr k x r) (if jJ k j=true then (k,y):: (j,v):: r' else (j,v):: lr k y r')
   by_cases z:jJ k j=true
   ·rw [if_pos z,if_pos z]; exact .cons ⟨rfl,h⟩ (.cons ⟨rfl,h1⟩ t)
   ·rw [if_neg z,if_neg z]; exact .cons ⟨rfl,h1⟩ (lP h t)
theorem gy {α β:Type}{R:α->β->Prop}:∀ {l:List (Ky × α)}{m:List (Ky × β)},Paired (fun a b=>a.1=b.1∧R a.2 b.2) l m->Paired (fun a b=>a.1=b.1∧R a.2 b.2) (cK l) (cK m)
 | _,_,.nil=>.nil
 | _,_,.cons (a:=(j,u)) (b:=(j',v)) (l₁:=r) (l₂:=r') h0 t=>by
   obtain ⟨e,h1⟩:=h0
   have e:j=j':=e
   subst e
   exact lP h1 (gy t)
theorem jq {α β:Type}{R:α->β->Prop}:∀ {l:List (Ky × α)}{m:List (Ky × β)},Paired (fun a b=>a.1=b.1∧R a.2 b.2) l m->Paired R (l.map (·.2)) (m.map (·.2))
 | _,_,.nil=>.nil
 | _,_,.cons h t=>.cons h.2 (jq t)
theorem jW {R:V->Tm->Prop}:∀ {xs:List V}{es:List Tm},Paired R xs es->Paired (fun a b=>a.1=b.1∧R a.2 b.2) ((es.map c5).zip xs) (es.map fun e=>(c5 e,e))
 | _,_,.nil=>.nil
 | _,_,.cons h t=>.cons ⟨rfl,h⟩ (jW t)
theorem lu:∀ {xs:List V}{es:List Tm}{H:Hp}{R:List V->Hp->Prop},bh H xs es →
 (∀ ks H2,aA H H2->Paired (fun x e=>∃ a b,x = .ref a∧H2 a=some (.tup [.int e.1.length,.ref b])∧H2 b=some (.tup (e.1.map V.int))) ks es->R ks H2)->ml spPlaceOf xs H R
 | _,_,H,R,.nil,h=>h [] H (aA.refl _) .nil
 | _,_,H,R,.cons (b:=e) h0 t,h=>by
   obtain ⟨a,pr,nu,rfl,ha,hpr,hnu⟩:=h0
   refine ⟨a,pr,.ref nu,_,rfl,ha,hpr,fun tt htt=>?_⟩
   rw [List.length_map]
   have sU:aA H (upd H tt (.tup [.int e.1.length,.ref pr])):=ak htt
   refine lu (bh.keep t (aF.of sU)) fun ks H2 s2 hk=>h _ H2 (fun b u z=>s2 _ _ (sU _ _ z)) (.cons ⟨tt,pr,rfl,s2 _ _ ag,s2 _ _ (sU _ _ hpr)⟩ hk)
theorem ou {K:Frag}{H:Hp}:∀ {ks:List V}{es:List Tm},Paired (fun x e=>∃ a b,x = .ref a∧H a=some (.tup [.int e.1.length,.ref b])∧H b=some (.tup (e.1.map V.int))) ks es->cN K H ks (es.map c5)
 | _,_,.nil=>True.intro
 | _,_,.cons h t=>by
   obtain ⟨a,b,rfl,h1,h2⟩:=h
   exact ⟨⟨a,b,[],rfl,bf.of h1,bf.of h2⟩,ou t⟩
theorem rD {d:List Tm}(h:(d.map (·.1)).Nodup)(f:Tm->Bool):((d.filter f).map c5).Nodup:=by
 have h1:((d.filter f).map (·.1)).Nodup:=h.sublist (List.filter_sublist.map _)
 have e:(d.filter f).map c5=((d.filter f).map (·.1)).map fun k=>((k.length:Int),k):=by rw [List.map_map]; rfl
 rw [e]
 unfold List.Nodup at h1 ⊢
 rw [List.pairwise_map]
 exact h1.imp fun h z=>h (Prod.mk.inj z).2
theorem gw {d:List Tm}(h:(d.map (·.1)).Nodup):∀ {e e':Tm},e∈d->e'∈d->e.1=e'.1->e=e':=by
 induction d with
 | nil=>intro e e' h1; exact nomatch h1
 | cons a d ih =>
   rw [List.map_cons,List.nodup_cons] at h
   intro e e' h1 h2 z
   rcases List.mem_cons.mp h1 with h3 | h3
   ·rcases List.mem_cons.mp h2 with h4 | h4
    ·rw [h3,h4]
    ·exact absurd (by rw [← h3,z]; exact List.mem_map_of_mem (f:=(·.1)) h4) h.1
   ·rcases List.mem_cons.mp h2 with h4 | h4
    ·exact absurd (by rw [← h4,← z]; exact List.mem_map_of_mem (f:=(·.1)) h3) h.1
    ·exact ih h.2 h3 h4 z
variable {P:Program}{w:World}{K:PySem.W.Frag}{mg:Str->Option Value}{base:Heap}
theorem An {f fp fo C:Addr}{fd fdp fdo:FuncData}(F:Fun K "gathered" "gathered" xC f fd)(c:FieldK K mg C)(m_sorted:mg "sorted"=none)
 (FPl:FnOk P w K mg base (bz P w) 4 fp fdp ["self","one","other"] (AG C jv))(bPl:L2.aH K fdp ["self","one","other"] [])(mPl:L2.Meth K C "plus" fp)
 (FPo:FnOk P w K mg base (bz P w) 1 fo fdo ["term"] spPlaceOf)(bPo:L2.aH K fdo ["term"] [])(mPo:mg "place_of_term"=some (.ref fo)):FnOk P w K mg base (bz P w) 5 f fd ["field","terms"] (qm C):=by
 refine F.okN iz (fun vs H Q E h=>?_) (fun cdv A outer s H vs Q E hr h=>?_)
 ·obtain ⟨s,dx,l,p,ys,ts,m,rfl,_⟩:=h
  rfl
 ·obtain ⟨s0,dx,l,p,ys,ts,m,rfl,hs,hp,hl,hts,h64,hG,hm,hm2,q⟩:=h
  have hr4:Room 4 _:=hr.mono (by decide)
  have hrS:Room 3 _:=hr.mono (by decide)
  have hu:=(hr.units:_ + 64 < cLine)
  replace hu:=Nat.lt_of_le_of_lt (Nat.add_le_add_left (by decide:1≤64) _) hu
  refine ⟨_,(ao (@aS _ _ 2 _ _ _ _ iz.nd rfl (Or.inl rfl) ow rfl (Or.inl rfl))
   (ao (gD PassesOwn.never rfl (gF (pv 1)) (dX rfl (bo (aR (i:=3) iz.nd rfl (Or.inl rfl)) (bo (aR (i:=4) iz.nd rfl (Or.inl rfl)) c0)))
   (ao (bJ (Bi (BC hu (pv 3) (pv 2))) (av (@aS _ _ 4 _ _ _ _ iz.nd rfl (Or.inl rfl) (nG (pv 0) c.cl mPl FPl hr4 bPl .nil ah (@aj _ _ _ _ _ (ny hu (pv 2) (pv 3) (fun _ _=>rfl)) (@aj _ _ _ _ _ (pv 4) ae rfl) rfl)) rfl (Or.inl rfl))) aO)
   (av (t9 hu (pv 2) (pv 3) (pv 4) (by rfl)))))
   (ao (mQ (i:=5) (g:=nv K 2 (cS (bZ 0) (cS (bZ 1) gNil))) (N:=["product","number"]) (nl:=2) (js:=[]) (osc:=ar xC) ⟨rfl,rfl,by decide +kernel,by decide +kernel,by decide +kernel,rfl,.nil,by decide +kernel⟩ rfl iz.nd rfl (Or.inl rfl)
    (yd (pv 2))
    (fun C fp s H=>(dX (X:=eN _ ["product","number"] _ C fp s H) rfl (bo (aR (X:=eN _ ["product","number"] _ C fp s H) (i:=0) (by show (["product","number"]:List Str).Nodup; decide +kernel) rfl (Or.inl rfl) (Or.inr rfl)) (bo (aR (X:=eN _ ["product","number"] _ C fp s H) (i:=1) (by show (["product","number"]:List Str).Nodup; decide +kernel) rfl (Or.inl rfl) (Or.inr rfl)) c0))))
    (fun C fp s H=>(fH (@aJ _ _ _ _ _ _ _ _ dI (@aQ _ _ _ _ _ _ _ (show DF _ (yO K) from aY) (pv 1) ai (fun _ _=>rfl)) ai (aI _))))
    (fun C fp s H=>(@aC _ _ _ _ _ (@aj _ _ _ _ _ (pv 0) (@aj _ _ _ _ _ (pv 1) ae rfl) rfl))) (by rfl))
   (av (aD (w9 FPo hrS bPo (by rfl) m_sorted (by rfl) mPo (pv 5))))))),?_⟩
  have hlen:=hts.length
  have gg:∀ i,i≤ts.length->oN p 4000 (aX p (ts.take i))∧((aX p (ts.take i)).map (·.1)).Nodup∧(aX p (ts.take i)).length≤i:=fun i hi=>by
   obtain ⟨g1,g2,g3⟩:=fB (m:=m) hp i (ts.take i) (by simp; omega) fun t ht=>hG t (List.mem_of_mem_take ht)
   refine ⟨fun e he=>?_,g2,g3⟩
   have b:=g1 e he
   have le:(m + 1) * i + 7≤4000:=Nat.le_trans (Nat.add_le_add_right (Nat.mul_le_mul_left _ hi) _) hm
   exact ⟨b.1,b.2.1.mono le,b.2.2.mono le⟩
  refine fun dd hdd=>?_
  have s1:aA H (upd H dd (.dT [])):=ak hdd
  refine ⟨_,rfl,l,rfl,⟨ys,br.of (s1 _ _ hl)⟩,?_⟩
  refine ⟨fun i m σ' H'=>m=ts.length - i∧i≤ts.length∧aA H H'∧(∃ kvs,H' dd=some (.dT kvs)∧DR H' kvs (aX p (ts.take i)))∧∃ o3 o4,σ'=[some (.ref s0),some (.ref l),some (.ref dd),o3,o4,none],
   ⟨ts.length,by simp,Nat.zero_le _,s1,⟨[],ag,.nil⟩,none,none,rfl⟩,?_⟩
  rintro i m' σ' H' ⟨rfl,hi,sH,⟨kvs,hd,dr⟩,o3,o4,rfl⟩
  have hl':=sH _ _ hl
  have hs':=sH _ _ hs
  obtain ⟨gd,gnd,gl⟩:=gg i hi
  by_cases hlt:i < ts.length
  ·have hly:i < ys.length:=by omega
   refine .inr ⟨⟨ys,ys[i],br.of hl',by simp [hly]⟩,fun σ' H'=>i + 1≤ts.length∧aA H H'∧(∃ kvs,H' dd=some (.dT kvs)∧DR H' kvs (aX p (ts.take (i + 1))))∧∃ o3 o4,σ'=[some (.ref s0),some (.ref l),some (.ref dd),o3,o4,none],?_,fun y H2 hy=>?_⟩
   ·rintro σ' H' ⟨h1,h2,h3,h4⟩
    exact ⟨ts.length - (i + 1),by omega,rfl,h1,h2,h3,h4⟩
   ·obtain ⟨rfl,hy⟩:=hy
    obtain ⟨t,et,tr⟩:=b9 hts (hy ys (br.of hl'))
    obtain ⟨a,pr,nu,rfl,ha,hpr,hnu⟩:=tr.keep (aF.of sH)
    have gt:=hG t (List.mem_of_getElem? et)
    have esn:ts.take (i + 1)=ts.take i++[t]:=by rw [List.take_add_one,et]; rfl
    have hpr':∀ H3:Hp,aF H2 H3->H3 pr=some (.tup ((i6 t.1).map kV)):=fun H3 k=>by rw [ip]; exact k _ _ hpr
    have fin:∀ (H3:Hp)(an:Addr),aA H H3->aF H2 H3->H3 dd=some (.dT kvs)->((aX p (ts.take i)).any (fun e=>decide (e.1=t.1))=false->H3 an=some (cj t.2.1 t.2.2)) →
     (∀ e∈aX p (ts.take i),e.1=t.1->H3 an=some (cj (d8 p e.2 t.2).1 (d8 p e.2 t.2).2)) →
     aA H (upd H3 dd (.dT (eF kvs (i6 t.1) (.ref an))))∧∃ kvs',(upd H3 dd (.dT (eF kvs (i6 t.1) (.ref an)))) dd=some (.dT kvs')∧DR (upd H3 dd (.dT (eF kvs (i6 t.1) (.ref an)))) kvs' (aX p (ts.take (i + 1))):=by
     intro H3 an s3 k3 h3 hno hyes
     refine ⟨fun b u e=>by rw [aq (au e hdd)]; exact s3 b u e,_,ag,?_⟩
     rw [esn,il]
     exact (yC (dr.keep k3) gnd hno hyes).keep (aF.upd fun xs z=>by rw [h3] at z; cases z)
    have klen:kvs.length < sizeLine:=by
     rw [dr.length]
     exact Nat.lt_of_le_of_lt gl (Nat.lt_trans (Nat.lt_of_le_of_lt hi h64) (by decide))
    refine ⟨a,_,rfl,bf.of ha,rfl,_,_,rfl,_,_,rfl,rfl,?_⟩
    refine ⟨_,rfl,_,rfl,dd,_,rfl,iu.t hd (hpr' _ fun _ _ e=>e),_,rfl,?_⟩
    cases hq:(aX p (ts.take i)).any (fun e=>decide (e.1=t.1)) with
    | false =>
      rw [t6 t.1 dr hq]
      refine cf ?_
      refine ⟨_,rfl,_,rfl,_,rfl,dd,_,rfl,pK.t hd (hpr' _ fun _ _ e=>e) klen,?_⟩
      obtain ⟨f1,f2⟩:=fin H2 nu sH (fun _ _ e=>e) hd (fun _=>hnu) fun e he z=>by
       have:(aX p (ts.take i)).any (fun e=>decide (e.1=t.1))=true:=List.any_eq_true.mpr ⟨e,he,by simpa using z⟩
       rw [hq] at this; cases this
      exact ⟨hlt,f1,f2,_,_,rfl⟩
    | true =>
      obtain ⟨e,he,ek,a0,hv,ha0⟩:=jX t.1 dr hq
      rw [hv]
      refine bV ?_
      have ge:=gd e he
      refine ⟨_,rfl,s0,dx,_,rfl,hs',rfl,_,rfl,_,rfl,dd,_,rfl,(by rw [← hv]; exact iu.t hd (hpr' _ fun _ _ e=>e)),_,rfl,s0,dx,a0,nu,p,e.2.1,e.2.2,t.2.1,t.2.2,rfl,hs',hp,ha0,hnu,
       ge.2.1,ge.2.2,gt.2.1.mono hm2,gt.2.2.mono hm2,ge.ne,gt.ne,fun a1 ha1=>?_⟩
      have sU:aA H2 (upd H2 a1 (cj (d8 p e.2 t.2).1 (d8 p e.2 t.2).2)):=ak ha1
      refine ⟨_,rfl,_,rfl,_,rfl,dd,_,rfl,pK.t (sU _ _ hd) (hpr' _ (aF.of sU)) klen,?_⟩
      obtain ⟨f1,f2⟩:=fin _ a1 (fun b u z=>sU _ _ (sH _ _ z)) (aF.of sU) (sU _ _ hd) (fun z=>by rw [hq] at z; cases z) fun e' he' z=>by
       have:e'=e:=gw gnd he' he (z.trans ek.symm)
       subst this
       exact ag
      exact ⟨hlt,f1,f2,_,_,rfl⟩
  ·have ei:i=ts.length:=by omega
   subst ei
   refine .inl ⟨⟨ys,br.of hl',by omega⟩,?_⟩
   rw [List.take_length] at dr gd gnd gl
   refine ⟨_,rfl,dd,kvs,rfl,.inr ⟨hd,fun o=>?_⟩⟩
   have sF:aA H (upd H' dd (oa o kvs)):=fun b u e=>by rw [aq (au e hdd)]; exact sH b u e
   have drF:DR (upd H' dd (oa o kvs)) kvs (aX p ts):=dr.keep (aF.upd fun xs z=>by rw [hd] at z; cases z)
   have kl:kvs.length=(aX p ts).length:=dr.length
   refine ⟨fun i m xs σ' H2=>m=(aX p ts).length - i∧i≤(aX p ts).length∧aA H H2∧H2 dd=some (oa o kvs)∧DR H2 kvs (aX p ts)∧bh H2 xs (((aX p ts).take i).filter fun e=>e.2.1 != 0)∧∃ o1 o2,σ'=[o1,o2],
    ⟨(aX p ts).length,by simp,Nat.zero_le _,sF,ag,drF,.nil,none,none,rfl⟩,?_⟩
   rintro i m' xs σ' H2 ⟨rfl,hi2,s2,hd2,dr2,hx2,o1,o2,rfl⟩
   have xl:xs.length≤(aX p ts).length:=by
    rw [hx2.length]
    exact Nat.le_trans (List.length_filter_le _ _) (by simp; omega)
   refine ⟨Nat.lt_of_le_of_lt (Nat.le_trans xl gl) (Nat.lt_trans h64 (by decide)),?_⟩
   by_cases hlt2:i < (aX p ts).length
   ·refine .inr ⟨⟨by omega,hd2⟩,fun x H3 hx=>?_⟩
    obtain ⟨pp,b,k,v,hk,hpp,hb,rfl,rfl⟩:=hx
    obtain ⟨e,ee,ek,a,ev,ha⟩:=b9 dr2 hk
    have ek:k=i6 e.1:=ek
    have ev:v = .ref a:=ev
    subst ek
    subst ev
    have sP:aA H2 (upd H2 pp (.tup [.ref b,.ref a])):=ak hpp
    have esn:(aX p ts).take (i + 1)=(aX p ts).take i++[e]:=by rw [List.take_add_one,ee]; rfl
    rw [ip] at hb
    refine ⟨pp,_,rfl,bf.of ag,rfl,_,_,rfl,_,_,rfl,rfl,?_⟩
    refine ⟨_,rfl,a,_,0,_,rfl,rfl,bf.of (sP _ _ ha),rfl,rfl,_,rfl,?_⟩
    have dP:upd H2 pp (.tup [.ref b,.ref a]) dd=some (oa o kvs):=sP _ _ hd2
    cases hz:(e.2.1 != 0) with
    | true =>
      have z:(!decide (V.int e.2.1=V.int 0))=true:=by
       have:e.2.1≠0:=by simpa using hz
       simp [this]
      rw [z]
      refine bV ⟨_,rfl,_,rfl,kQ,fun t' ht'=>?_⟩
      have sT:aA (upd H2 pp (.tup [.ref b,.ref a])) (upd (upd H2 pp (.tup [.ref b,.ref a])) t' (.tup [.ref b,.ref a])):=ak ht'
      have sA:aA H2 (upd (upd H2 pp (.tup [.ref b,.ref a])) t' (.tup [.ref b,.ref a])):=fun c u e=>sT _ _ (sP _ _ e)
      refine ⟨(aX p ts).length - (i + 1),by omega,rfl,hlt2,fun c u e=>sA _ _ (s2 _ _ e),sA _ _ hd2,dr2.keep (aF.of sA),?_,_,_,rfl⟩
      rw [esn,List.filter_append]
      have ef:[e].filter (fun e=>e.2.1 != 0)=[e]:=by simp [hz]
      rw [ef]
      exact Paired.snoc (bh.keep hx2 (aF.of sA)) ⟨t',b,a,rfl,ag,sA _ _ hb,sA _ _ ha⟩
    | false =>
      have z:(!decide (V.int e.2.1=V.int 0))=false:=by
       have:e.2.1=0:=by simpa using hz
       simp [this]
      rw [z]
      refine cf ⟨(aX p ts).length - (i + 1),by omega,rfl,hlt2,fun c u e=>sP _ _ (s2 _ _ e),sP _ _ hd2,dr2.keep (aF.of sP),?_,_,_,rfl⟩
      rw [esn,List.filter_append]
      have ef:[e].filter (fun e=>e.2.1 != 0)=[]:=by simp [hz]
      rw [ef,List.append_nil]
      exact bh.keep hx2 (aF.of sP)
   ·have ei2:i=(aX p ts).length:=by omega
    subst ei2
    refine .inl ⟨⟨by omega,hd2⟩,fun D hD=>?_⟩
    rw [List.take_length] at hx2
    have sD:aA H2 (upd H2 D (.lst xs)):=ak hD
    refine ⟨_,rfl,D,xs,rfl,br.of ag,Nat.lt_of_le_of_lt (Nat.le_trans xl gl) h64,?_⟩
    refine lu (bh.keep hx2 (aF.of sD)) fun ks H3 s3 hk=>?_
    refine ⟨_,ou hk,rD gnd _,fun D2 hD2=>?_⟩
    have sE:aA H3 (upd H3 D2 (.lst ((cK ((((aX p ts).filter fun e=>e.2.1 != 0).map c5).zip xs)).map (·.2)))):=ak hD2
    refine q _ D2 _ (fun c u e=>sE _ _ (s3 _ _ (sD _ _ (s2 _ _ e)))) (none_of (fun c u e=>s3 _ _ (sD _ _ (s2 _ _ e))) hD2) ag ?_
    have hx3:bh H3 xs ((aX p ts).filter fun e=>e.2.1 != 0):=bh.keep hx2 (aF.of fun c u e=>s3 _ _ (sD _ _ e))
    exact bh.keep (jq (gy (jW hx3))) (aF.of sE)
abbrev nV:Stmt:=(bt 44)
def spLGath:Sp:=fun vs H Q _=>∃ (l:Addr)(p:Int)(ys:List V)(ts:List Tm)(m:Nat),vs=[.int p,.ref l]∧FP p∧H l=some (.lst ys)∧bh H ys ts∧ts.length < 64 ∧
 (∀ t∈ts,Gn p m t.2)∧(m + 1) * ts.length + 7≤4000∧m≤4000∧∀ H' D zs,aA H H'->H' D=some (.lst zs)->bh H' zs (fh (aX p ts))->Q (.ref D) H'
theorem gQ:FnScope ["_law_prime_here","_law_some","_law_found","_law_product","_law_number_here","_law_rows"] ["_law_prime_here","_law_some"] (ar nV):=eO (by decide +kernel)
def Aq (H:Hp)(x:V)(e:Tm):Prop:=∃ t b a,x = .ref t∧H t=some (.tup [.int e.1.length,.ref b,.ref a])∧H b=some (.tup (e.1.map V.int))∧H a=some (cj e.2.1 e.2.2)
theorem Aq.keep {H H':Hp}{y:V}{t:Tm}(h:Aq H y t)(k:aF H H'):Aq H' y t:=let ⟨a,pr,nu,e,h1,h2,h3⟩:=h; ⟨a,pr,nu,e,k _ _ h1,k _ _ h2,k _ _ h3⟩
abbrev gh (H:Hp):List V->List Tm->Prop:=Paired (Aq H)
theorem gh.keep {H H':Hp}{ys:List V}{ts:List Tm}(h:gh H ys ts)(k:aF H H'):gh H' ys ts:=Paired.mapP h fun _ _ z=>z.keep k
theorem md {K:Frag}{H:Hp}:∀ {ks:List V}{es:List Tm},gh H ks es->cN K H ks (es.map c5)
 | _,_,.nil=>True.intro
 | _,_,.cons h t=>by
   obtain ⟨t0,b,a,rfl,h1,h2,h3⟩:=h
   exact ⟨⟨t0,b,[.ref a],rfl,bf.of h1,bf.of h2⟩,md t⟩
theorem wL {f fl:Addr}{fd fdl:FuncData}(F:Fun K "_law_gather" "_law_gather" nV f fd)(m_sorted:mg "sorted"=none)(m_len:mg "len"=none)
 (FLp:FnOk P w K mg base (bz P w) 3 fl fdl ["_law_prime_here","_law_one","_law_other"] (xf jv))(bLp:L2.aH K fdl ["_law_prime_here","_law_one","_law_other"] [])(mLp:mg "_law_plus"=some (.ref fl))(kLp:keepIn K (.ref fl)=true):
 FnOk P w K mg base (bz P w) 4 f fd ["_law_prime_here","_law_some"] spLGath:=by
 refine F.okN gQ (fun vs H Q E h=>?_) (fun cdv A outer s H vs Q E hr h=>?_)
 ·obtain ⟨l,p,ys,ts,m,rfl,_⟩:=h
  rfl
 ·obtain ⟨l,p,ys,ts,m,rfl,hp,hl,hts,h64,hG,hm,hm2,q⟩:=h
  have hr3:Room 3 _:=hr.mono (by decide)
  have hrS:Room (1 + 2) _:=hr.mono (by decide)
  have hr1:Room 1 _:=hr.mono (by decide)
  have hu:=(hr.units:_ + 64 < cLine)
  replace hu:=Nat.lt_of_le_of_lt (Nat.add_le_add_left (by decide:1≤64) _) hu
  refine ⟨_,(ao (@aS _ _ 2 _ _ _ _ gQ.nd rfl (Or.inr rfl) ow rfl (Or.inl rfl))
   (ao (gD PassesOwn.never rfl (gF (pv 1)) (dX rfl (bo (aR (i:=3) gQ.nd rfl (Or.inl rfl)) (bo (aR (i:=4) gQ.nd rfl (Or.inl rfl)) c0)))
   (av (t9 hu (pv 2) (pv 3) (aB FLp hr3 (by rfl) mLp kLp bLp .nil ah (@aj _ _ _ _ _ (pv 0) (@aj _ _ _ _ _ (xN hu (pv 2) (pv 3) (@aC _ _ _ _ _ (@aj _ _ _ _ _ ai (@aj _ _ _ _ _ ai ae rfl) rfl)) ⟨rfl,rfl,rfl,rfl⟩) (@aj _ _ _ _ _ (pv 4) ae rfl) rfl) rfl)) (by rfl))))
   (ao (mQ (i:=5) (N:=["_law_product","_law_found"]) (nl:=1) (js:=[2]) (osc:=ar nV) ⟨rfl,rfl,by decide +kernel,by decide +kernel,by decide +kernel,rfl,(.cons ⟨rfl,by decide +kernel⟩ .nil),by decide +kernel⟩ rfl gQ.nd rfl (Or.inl rfl)
    (yV (pv 2))
    (fun C fp s H=>aR (i:=0) (by show (["_law_product","_law_found"]:List Str).Nodup; decide +kernel) rfl (Or.inl rfl) (Or.inr rfl))
    (fun C fp s H=>(fH (@aJ _ _ _ _ _ _ _ _ (show eM _ _ (BK K true) from j7 hr1) (ny hu (pv 1) (pv 0) (fun _ _=>rfl)) (@aC _ _ _ _ _ (@aj _ _ _ _ _ ai (@aj _ _ _ _ _ ai ae rfl) rfl)) (aI _))))
    (fun C fp s H=>(@aC _ _ _ _ _ (@aj _ _ _ _ _ (az (show bU _ _ (fun xs H Q=>∃ p ys,xs=[.ref p]∧(br K H p ys∨bf K H p ys)∧Q (.int ys.length) H) from a9) (by rfl) m_len PySem.boot_len (@aj _ _ _ _ _ (pv 0) ae rfl)) (@aj _ _ _ _ _ (pv 0) (@aj _ _ _ _ _ (ny hu (pv 1) (pv 0) (fun _ _=>rfl)) ae rfl) rfl) rfl))) (by rfl))
   (av (aD (dJ (g:=nv K 3 (cS (bZ 0) (cS (bZ 1) (cS (bZ 2) gNil)))) (N:=["_law_many","_law_product","_law_number_here"]) (nl:=3) (js:=[]) (osc:=ar nV) ⟨rfl,rfl,by decide +kernel,by decide +kernel,by decide +kernel,rfl,.nil,by decide +kernel⟩ rfl
    (gF (az (pF hrS) (by rfl) m_sorted (by rfl) (@aj _ _ _ _ _ (pv 5) ae rfl)))
    (fun C fp s H=>(dX (X:=eN _ ["_law_many","_law_product","_law_number_here"] _ C fp s H) rfl (bo (aR (X:=eN _ ["_law_many","_law_product","_law_number_here"] _ C fp s H) (i:=0) (by show (["_law_many","_law_product","_law_number_here"]:List Str).Nodup; decide +kernel) rfl (Or.inl rfl) (Or.inr rfl)) (bo (aR (X:=eN _ ["_law_many","_law_product","_law_number_here"] _ C fp s H) (i:=1) (by show (["_law_many","_law_product","_law_number_here"]:List Str).Nodup; decide +kernel) rfl (Or.inl rfl) (Or.inr rfl)) (bo (aR (X:=eN _ ["_law_many","_law_product","_law_number_here"] _ C fp s H) (i:=2) (by show (["_law_many","_law_product","_law_number_here"]:List Str).Nodup; decide +kernel) rfl (Or.inl rfl) (Or.inr rfl)) c0)))))
    (fun C fp s H=>gM)
    (fun C fp s H=>(@aC _ _ _ _ _ (@aj _ _ _ _ _ (pv 1) (@aj _ _ _ _ _ (pv 2) ae rfl) rfl))))))))),?_⟩
  have hlen:=hts.length
  have gg:∀ i,i≤ts.length->oN p 4000 (aX p (ts.take i))∧((aX p (ts.take i)).map (·.1)).Nodup∧(aX p (ts.take i)).length≤i:=fun i hi=>by
   obtain ⟨g1,g2,g3⟩:=fB (m:=m) hp i (ts.take i) (by simp; omega) fun t ht=>hG t (List.mem_of_mem_take ht)
   refine ⟨fun e he=>?_,g2,g3⟩
   have b:=g1 e he
   have le:(m + 1) * i + 7≤4000:=Nat.le_trans (Nat.add_le_add_right (Nat.mul_le_mul_left _ hi) _) hm
   exact ⟨b.1,b.2.1.mono le,b.2.2.mono le⟩
  have one:∀ {n:Nat}{a:Int × Int},Gn p n a->p≠0->a.2=1:=fun h z=>(h.1.pr z).1
  refine fun dd hdd=>?_
  have s1:aA H (upd H dd (.dT [])):=ak hdd
  refine ⟨_,rfl,l,rfl,⟨ys,br.of (s1 _ _ hl)⟩,?_⟩
  refine ⟨fun i m σ' H'=>m=ts.length - i∧i≤ts.length∧aA H H'∧(∃ kvs,H' dd=some (.dT kvs)∧DR H' kvs (aX p (ts.take i)))∧∃ o3 o4,σ'=[some (.int p),some (.ref l),some (.ref dd),o3,o4,none],
   ⟨ts.length,by simp,Nat.zero_le _,s1,⟨[],ag,.nil⟩,none,none,rfl⟩,?_⟩
  rintro i m' σ' H' ⟨rfl,hi,sH,⟨kvs,hd,dr⟩,o3,o4,rfl⟩
  have hl':=sH _ _ hl
  obtain ⟨gd,gnd,gl⟩:=gg i hi
  by_cases hlt:i < ts.length
  ·have hly:i < ys.length:=by omega
   refine .inr ⟨⟨ys,ys[i],br.of hl',by simp [hly]⟩,fun σ' H'=>i + 1≤ts.length∧aA H H'∧(∃ kvs,H' dd=some (.dT kvs)∧DR H' kvs (aX p (ts.take (i + 1))))∧∃ o3 o4,σ'=[some (.int p),some (.ref l),some (.ref dd),o3,o4,none],?_,fun y H2 hy=>?_⟩
   ·rintro σ' H' ⟨h1,h2,h3,h4⟩
    exact ⟨ts.length - (i + 1),by omega,rfl,h1,h2,h3,h4⟩
   ·obtain ⟨rfl,hy⟩:=hy
    obtain ⟨t,et,tr⟩:=b9 hts (hy ys (br.of hl'))
    obtain ⟨a,pr,nu,rfl,ha,hpr,hnu⟩:=tr.keep (aF.of sH)
    have gt:=hG t (List.mem_of_getElem? et)
    have esn:ts.take (i + 1)=ts.take i++[t]:=by rw [List.take_add_one,et]; rfl
    have hpr':∀ H3:Hp,aF H2 H3->H3 pr=some (.tup ((i6 t.1).map kV)):=fun H3 k=>by rw [ip]; exact k _ _ hpr
    have fin:∀ (H3:Hp)(an:Addr),aA H H3->aF H2 H3->H3 dd=some (.dT kvs)->((aX p (ts.take i)).any (fun e=>decide (e.1=t.1))=false->H3 an=some (cj t.2.1 t.2.2)) →
     (∀ e∈aX p (ts.take i),e.1=t.1->H3 an=some (cj (d8 p e.2 t.2).1 (d8 p e.2 t.2).2)) →
     aA H (upd H3 dd (.dT (eF kvs (i6 t.1) (.ref an))))∧∃ kvs',(upd H3 dd (.dT (eF kvs (i6 t.1) (.ref an)))) dd=some (.dT kvs')∧DR (upd H3 dd (.dT (eF kvs (i6 t.1) (.ref an)))) kvs' (aX p (ts.take (i + 1))):=by
     intro H3 an s3 k3 h3 hno hyes
     refine ⟨fun b u e=>by rw [aq (au e hdd)]; exact s3 b u e,_,ag,?_⟩
     rw [esn,il]
     exact (yC (dr.keep k3) gnd hno hyes).keep (aF.upd fun xs z=>by rw [h3] at z; cases z)
    have klen:kvs.length < sizeLine:=by
     rw [dr.length]
     exact Nat.lt_of_le_of_lt gl (Nat.lt_trans (Nat.lt_of_le_of_lt hi h64) (by decide))
    refine ⟨a,_,rfl,bf.of ha,rfl,_,_,rfl,_,_,rfl,rfl,?_⟩
    refine ⟨_,rfl,_,rfl,dd,rfl,.inr ⟨kvs,.inl hd⟩,_,rfl,kQ,fun t0 ht0=>?_⟩
    have sZ:aA H2 (upd H2 t0 (.tup [.int 0,.int 1])):=ak ht0
    refine ⟨_,iu.t (sZ _ _ hd) (hpr' _ (aF.of sZ)),?_⟩
    cases hq:(aX p (ts.take i)).any (fun e=>decide (e.1=t.1)) with
    | false =>
      rw [t6 t.1 dr hq]
      refine ⟨_,rfl,p,0,1,t.2.1,t.2.2,t0,nu,rfl,hp,ag,sZ _ _ hnu,(by unfold B; decide),(by show (1:Nat) < 2 ^ 4000; exact Nat.one_lt_two_pow (by decide)),gt.2.1.mono hm2,gt.2.2.mono hm2,(by decide),gt.ne,fun z=>by rw [one gt z]; decide,fun H3 an s3 h3=>?_⟩
      have ez:d8 p (0,1) t.2=t.2:=uM hp gt
      have h3':H3 an=some (cj t.2.1 t.2.2):=by
       have:H3 an=some (cj (d8 p (0,1) t.2).1 (d8 p (0,1) t.2).2):=h3
       rw [ez] at this
       exact this
      have sA:aA H2 H3:=fun b u e=>s3 _ _ (sZ _ _ e)
      refine ⟨_,rfl,_,rfl,dd,_,rfl,pK.t (sA _ _ hd) (hpr' _ (aF.of sA)) klen,?_⟩
      obtain ⟨f1,f2⟩:=fin H3 an (fun b u e=>sA _ _ (sH _ _ e)) (aF.of sA) (sA _ _ hd) (fun _=>h3') fun e he z=>by
       have:(aX p (ts.take i)).any (fun e=>decide (e.1=t.1))=true:=List.any_eq_true.mpr ⟨e,he,by simpa using z⟩
       rw [hq] at this; cases this
      exact ⟨hlt,f1,f2,_,_,rfl⟩
    | true =>
      obtain ⟨e,he,ek,a0,hv,ha0⟩:=jX t.1 dr hq
      rw [hv]
      have ge:=gd e he
      refine ⟨_,rfl,p,e.2.1,e.2.2,t.2.1,t.2.2,a0,nu,rfl,hp,sZ _ _ ha0,sZ _ _ hnu,ge.2.1,ge.2.2,gt.2.1.mono hm2,gt.2.2.mono hm2,ge.ne,gt.ne,fun z=>by rw [one gt z,one ge z]; decide,fun H3 an s3 h3=>?_⟩
      have sA:aA H2 H3:=fun b u e=>s3 _ _ (sZ _ _ e)
      refine ⟨_,rfl,_,rfl,dd,_,rfl,pK.t (sA _ _ hd) (hpr' _ (aF.of sA)) klen,?_⟩
      obtain ⟨f1,f2⟩:=fin H3 an (fun b u e=>sA _ _ (sH _ _ e)) (aF.of sA) (sA _ _ hd) (fun z=>by rw [hq] at z; cases z) fun e' he' z=>by
       have:e'=e:=gw gnd he' he (z.trans ek.symm)
       subst this
       exact h3
      exact ⟨hlt,f1,f2,_,_,rfl⟩
  ·have ei:i=ts.length:=by omega
   subst ei
   refine .inl ⟨⟨ys,br.of hl',by omega⟩,?_⟩
   rw [List.take_length] at dr gd gnd gl
   refine ⟨_,rfl,dd,kvs,rfl,.inr ⟨hd,fun o=>?_⟩⟩
   have sF:aA H (upd H' dd (oa o kvs)):=fun b u e=>by rw [aq (au e hdd)]; exact sH b u e
   have drF:DR (upd H' dd (oa o kvs)) kvs (aX p ts):=dr.keep (aF.upd fun xs z=>by rw [hd] at z; cases z)
   have kl:kvs.length=(aX p ts).length:=dr.length
   refine ⟨fun i m xs σ' H2=>m=(aX p ts).length - i∧i≤(aX p ts).length∧aA H H2∧H2 dd=some (oa o kvs)∧DR H2 kvs (aX p ts)∧gh H2 xs (((aX p ts).take i).filter fun e=>e.2.1 != 0)∧∃ o1,σ'=[o1,some (.ref dd)],
    ⟨(aX p ts).length,by simp,Nat.zero_le _,sF,ag,drF,.nil,none,rfl⟩,?_⟩
   rintro i m' xs σ' H2 ⟨rfl,hi2,s2,hd2,dr2,hx2,o1,rfl⟩
   have xl:xs.length≤(aX p ts).length:=by
    rw [hx2.length]
    exact Nat.le_trans (List.length_filter_le _ _) (by simp; omega)
   refine ⟨Nat.lt_of_le_of_lt (Nat.le_trans xl gl) (Nat.lt_trans h64 (by decide)),?_⟩
   by_cases hlt2:i < (aX p ts).length
   ·refine .inr ⟨⟨by omega,hd2⟩,fun x H3 hx=>?_⟩
    obtain ⟨b,k,v,hk,hb,rfl,rfl⟩:=hx
    obtain ⟨e,ee,ek,_⟩:=b9 dr2 hk
    have ek:k=i6 e.1:=ek
    subst ek
    have he:=List.mem_of_getElem? ee
    have ge:=gd e he
    have esn:(aX p ts).take (i + 1)=(aX p ts).take i++[e]:=by rw [List.take_add_one,ee]; rfl
    obtain ⟨e',he',ek',a,hv,ha⟩:=jX e.1 dr2 (List.any_eq_true.mpr ⟨e,he,by simp⟩)
    have:e'=e:=gw gnd he' he ek'
    subst this
    have dg:∀ H4:Hp,aA H3 H4->iu H4 dd (.ref b) (some (.ref a)):=fun H4 s4=>.inr ⟨kvs,i6 e'.1,b,.inr ⟨o,s4 _ _ hd2⟩,rfl,s4 _ _ hb,hv.symm⟩
    have hb':=hb
    rw [ip] at hb'
    refine ⟨_,rfl,_,rfl,dd,.ref a,rfl,dg _ (aA.refl _),kQ,fun t0 ht0=>?_⟩
    have sZ:aA H3 (upd H3 t0 (cj 0 1)):=ak ht0
    refine ⟨_,_,Bk (sZ _ _ ha),Bk ag,by rw [CK]; decide,_,rfl,?_⟩
    rw [Er]
    cases hz:(e'.2.1 != 0) with
    | true =>
      have z:((e'.2.1 == 0&&e'.2.2 == 1) != true)=true:=by
       have:e'.2.1≠0:=by simpa using hz
       simp [this]
      rw [z]
      refine bV ⟨_,rfl,b,_,rfl,.inr (bf.of (sZ _ _ hb')),_,rfl,_,rfl,_,rfl,dd,.ref a,rfl,dg _ sZ,E6,fun t' ht'=>?_⟩
      rw [List.length_map]
      have sT:aA (upd H3 t0 (cj 0 1)) (upd (upd H3 t0 (cj 0 1)) t' (.tup [.int e'.1.length,.ref b,.ref a])):=ak ht'
      have sA:aA H3 (upd (upd H3 t0 (cj 0 1)) t' (.tup [.int e'.1.length,.ref b,.ref a])):=fun c u e=>sT _ _ (sZ _ _ e)
      refine ⟨(aX p ts).length - (i + 1),by omega,rfl,hlt2,fun c u e=>sA _ _ (s2 _ _ e),sA _ _ hd2,dr2.keep (aF.of sA),?_,_,rfl⟩
      rw [esn,List.filter_append]
      have ef:[e'].filter (fun e=>e.2.1 != 0)=[e']:=by simp [hz]
      rw [ef]
      exact Paired.snoc (gh.keep hx2 (aF.of sA)) ⟨t',b,a,rfl,ag,sA _ _ hb',sA _ _ ha⟩
    | false =>
      have z:((e'.2.1 == 0&&e'.2.2 == 1) != true)=false:=by
       have h0:e'.2.1=0:=by simpa using hz
       have h1:e'.2.2=1:=by
        have g1:=ge.1.pos
        have g2:=ge.1.red
        rw [h0] at g2
        have:e'.2.2.natAbs=1:=by simpa using g2
        omega
       simp [h0,h1]
      rw [z]
      refine cf ⟨(aX p ts).length - (i + 1),by omega,rfl,hlt2,fun c u e=>sZ _ _ (s2 _ _ e),sZ _ _ hd2,dr2.keep (aF.of sZ),?_,_,rfl⟩
      rw [esn,List.filter_append]
      have ef:[e'].filter (fun e=>e.2.1 != 0)=[]:=by simp [hz]
      rw [ef,List.append_nil]
      exact gh.keep hx2 (aF.of sZ)
   ·have ei2:i=(aX p ts).length:=by omega
    subst ei2
    refine .inl ⟨⟨by omega,hd2⟩,fun D hD=>?_⟩
    rw [List.take_length] at hx2
    have sD:aA H2 (upd H2 D (.lst xs)):=ak hD
    have hx3:=gh.keep hx2 (aF.of sD)
    refine ⟨_,rfl,D,xs,_,rfl,br.of ag,Nat.lt_of_le_of_lt (Nat.le_trans xl gl) h64,md hx3,rD gnd _,fun D2 hD2=>?_⟩
    have hz3:gh (upd H2 D (.lst xs)) ((cK ((((aX p ts).filter fun e=>e.2.1 != 0).map c5).zip xs)).map (·.2)) (fh (aX p ts)):=jq (gy (jW hx3))
    generalize (cK ((((aX p ts).filter fun e=>e.2.1 != 0).map c5).zip xs)).map (·.2)=zs at hz3 ⊢
    have zl:=hz3.length
    have tl:(fh (aX p ts)).length≤(aX p ts).length:=by
     unfold fh
     rw [List.length_map,(cu _).length_eq,List.length_map]
     exact List.length_filter_le _ _
    have sE:aA (upd H2 D (.lst xs)) (upd (upd H2 D (.lst xs)) D2 (.lst zs)):=ak hD2
    have hz4:=gh.keep hz3 (aF.of sE)
    have sHE:aA H (upd (upd H2 D (.lst xs)) D2 (.lst zs)):=fun c u e=>sE _ _ (sD _ _ (s2 _ _ e))
    have eD2:upd (upd H2 D (.lst xs)) D2 (.lst zs) D2=some (.lst zs):=ag
    generalize upd (upd H2 D (.lst xs)) D2 (.lst zs)=H4 at hz4 sHE eD2 ⊢
    refine ⟨D2,rfl,⟨zs,br.of eD2⟩,?_⟩
    refine ⟨fun i m us σ' H5=>m=zs.length - i∧i≤zs.length∧aA H4 H5∧bh H5 us ((fh (aX p ts)).take i)∧∃ o1 o2 o3,σ'=[o1,o2,o3],⟨zs.length,by simp,Nat.zero_le _,aA.refl _,.nil,none,none,none,rfl⟩,?_⟩
    rintro i m' us σ' H5 ⟨rfl,hi5,s5,hu5,o1,o2,o3,rfl⟩
    have ul:us.length≤zs.length:=by
     rw [hu5.length]
     simp; omega
    refine ⟨Nat.lt_of_le_of_lt (Nat.le_trans ul (Nat.le_trans (Nat.le_of_eq zl) (Nat.le_trans tl gl))) (Nat.lt_trans h64 (by decide)),?_⟩
    have eD5:=s5 _ _ eD2
    by_cases hlt5:i < zs.length
    ·refine .inr ⟨⟨zs,zs[i],br.of eD5,by simp [hlt5]⟩,fun x H6 hx=>?_⟩
     obtain ⟨rfl,hx⟩:=hx
     obtain ⟨e,ee,er⟩:=b9 hz4 (hx zs (br.of eD5))
     obtain ⟨t0,b,a,rfl,h1,h2,h3⟩:=er.keep (aF.of s5)
     have esn:(fh (aX p ts)).take (i + 1)=(fh (aX p ts)).take i++[e]:=by rw [List.take_add_one,ee]; rfl
     refine ⟨t0,_,rfl,bf.of h1,rfl,_,_,rfl,_,_,rfl,_,_,rfl,rfl,?_⟩
     dsimp only [tYes]
     refine bV ⟨_,rfl,_,rfl,kQ,fun t' ht'=>?_⟩
     have sT:aA H6 (upd H6 t' (.tup [.ref b,.ref a])):=ak ht'
     refine ⟨zs.length - (i + 1),by omega,rfl,hlt5,fun c u e=>sT _ _ (s5 _ _ e),?_,_,_,_,rfl⟩
     rw [esn]
     exact Paired.snoc (bh.keep hu5 (aF.of sT)) ⟨t',b,a,rfl,ag,sT _ _ h2,sT _ _ h3⟩
    ·have ei5:i=zs.length:=by omega
     subst ei5
     refine .inl ⟨⟨zs,br.of eD5,Nat.le_refl _⟩,fun D3 hD3=>?_⟩
     rw [zl,List.take_length] at hu5
     have sL:aA H5 (upd H5 D3 (.lst us)):=ak hD3
     exact q _ D3 _ (fun c u e=>sL _ _ (s5 _ _ (sHE _ _ e))) ag (bh.keep hu5 (aF.of sL))
abbrev iw:Stmt:=bD (bt 25) 0
def Ah (ks:List Int):Prop:=da (some (ks.map V.int))=true∧ks.length < 4000
theorem zC {p t b:Int}(n:Num p t b):gf p (some (.int t,.int b))=true:=by
 unfold gf
 dsimp only
 by_cases z:p=0
 ·rw [if_pos z,n.red]
  have:=n.pos
  simp
  omega
 ·rw [if_neg z]
  obtain ⟨h1,h2,h3⟩:=n.pr z
  simp [h1,h2,h3]
theorem Dc {p:Int}{n:Nat}{H:Hp}{y:V}{t:Tm}(h:xP H y t)(g:Gn p n t.2)(pd:Ah t.1):TmX p H y true:=by
 obtain ⟨a,pr,nu,rfl,ha,hpr,hnu⟩:=h
 have e:TmX p H (.ref a) (da (some (t.1.map V.int))&&gf p (some (.int t.2.1,.int t.2.2))):=.two ha (.tup hpr (by rw [List.length_map]; exact pd.2) fun y hy=>by
  obtain ⟨k,_,rfl⟩:=List.mem_map.mp hy
  exact ⟨_,.int k⟩) (.two hnu (.int _) (.int _))
 rw [pd.1,zC g.1] at e
 exact e
theorem yj {p:Int}{n:Nat}{H:Hp}:∀ {ys:List V}{ts:List Tm},bh H ys ts->(∀ t∈ts,Gn p n t.2∧Ah t.1)->∀ y∈ys,TmX p H y true
 | _,_,.nil,_,y,hy=>nomatch hy
 | _,_,.cons h t,g,y,hy=>by
   rcases List.mem_cons.mp hy with rfl | hy
   ·exact Dc h (g _ List.mem_cons_self).1 (g _ List.mem_cons_self).2
   ·exact yj t (fun t ht=>g t (List.mem_cons_of_mem _ ht)) y hy
structure SumK (K:Frag)(mg:Str->Option Value)(C:Addr):Prop where
 cl:Cls K C
 nF:cn K C "its_field"
 nT:cn K C "its_terms"
 mgC:mg "Sum"=some (.ref C)
def qk (fl D:Addr):List (Str × V):=[("its_field",.ref fl),("its_terms",.ref D)]
def Ae (C CF:Addr):Sp:=fun vs H Q _=>∃ (s dx fl dxf:Addr)(p:Int)(x:V)(ts:List Tm)(m:Nat),vs=[.ref s,.ref fl,x]∧H s=some (.ins C dx [])∧H fl=some (.ins CF dxf (dD p))∧FP p ∧
 ((x = .non∧ts=[])∨∃ l ys,x = .ref l∧H l=some (.lst ys)∧bh H ys ts)∧ts.length < 64∧(∀ t∈ts,Gn p m t.2∧Ah t.1)∧(m + 1) * ts.length + 7≤4000∧m≤4000 ∧
 ∀ H' D zs,SameBut s H H'->H D=none->H' s=some (.ins C dx (qk fl D))->H' D=some (.lst zs)->bh H' zs (fh (aX p ts))->Q .non H'
theorem yU:FnScope ["self","field","terms"] ["self","field","terms"] (ar iw):=eO (by decide +kernel)
end K04
namespace L2
open PySem PySem.Spec PyProof.Rows PySem.W
theorem eT:∀ {ns:List Int}{us:List Value},aG (ns.map V.int) us->IntsAre us ns
 | [],us,r=>by cases r; exact .nil
 | n :: ns,us,r=>by
   rw [List.map_cons] at r
   cases r with
   | cons h t =>
     obtain ⟨k,rfl⟩:=(show ∃ k,_=Value.int n k from h)
     exact .cons n k (eT t)
theorem qD:∀ {us:List Value}{ns:List Int},IntsAre us ns->aG (ns.map V.int) us
 | _,_,.nil=>.nil
 | _,_,.cons n t h=>.cons ⟨t,rfl⟩ (qD h)
section
variable {X:Cx}
theorem rm:bU X (.builtin "sorted") (fun xs H Q=>∃ (l:Addr)(ns:List Int),xs=[.ref l]∧br X.K H l (ns.map V.int)∧ns.length < 64∧∀ (D:Addr)(ms:List Int),H D=none->ms.Perm ns->ms.Pairwise (· ≤ ·)->Q (.ref D) (upd H D (.lst (ms.map V.int)))):=by
 intro pins s σ H xs us Q I r h
 obtain ⟨l,ns,rfl,hl,h64,q⟩:=h
 obtain ⟨u,rfl,ru⟩:=dH r
 cases (show u=Value.ref l from ru)
 obtain ⟨its,rv,pl,hz⟩:=I.list hl
 have e1:=rv.length
 rw [List.length_map] at e1
 refine sorted_ints pl.isList (eT rv) (by omega) fun out ms a1 a2 a3=>?_
 obtain ⟨c,hc⟩:=sortedAll_at s.heap its out
 have fr:s.heap.get? (s.heap.objs.size + 1)=none:=by
  cases e:s.heap.get? (s.heap.objs.size + 1) with
  | none=>rfl
  | some o=>exact absurd (Heap.lt_size e) (Nat.not_lt.mpr (Nat.le_succ _))
 have hlen:(ms.map V.int).length≤sizeLine:=by
  rw [List.length_map,a2.length_eq]
  exact Nat.le_trans (Nat.le_of_lt h64) (by decide)
 exact ⟨.ref _,_,I.newObj (t':=s.toks) (o:=.lst (ms.map V.int)) (fun _ _ e=>sortedAll_old e) fr ⟨hlen,out.toList,c,qD a1,by simpa using hc⟩,rfl,q _ ms (I.hnone fr) a2 a3⟩
theorem uS (hc:X.calm=true):bU X (.builtin "max") (fun xs H Q=>∃ (l:Addr)(ns:List Int),xs=[.ref l]∧br X.K H l (ns.map V.int)∧ns≠[]∧∀ m,m∈ns->(∀ a∈ns,a≤m)->Q (.int m) H):=by
 intro pins s σ H xs us Q I r h
 obtain ⟨l,ns,rfl,hl,hne,q⟩:=h
 obtain ⟨u,rfl,ru⟩:=dH r
 cases (show u=Value.ref l from ru)
 obtain ⟨its,rv,pl,hz⟩:=I.list hl
 have hi:=eT rv
 obtain ⟨xs,e⟩:=hi.allInts.items
 have hns:ns=xs.toList.map (·.1):=by rw [← hi.numsOf,← nums_intItems,← e]
 have hsz:0 < xs.size:=by
  have h3:0 < ns.length:=List.length_pos_iff.mpr hne
  rw [hns,List.length_map,Array.length_toList] at h3
  exact h3
 have hl2:=pl.isList
 rw [e] at hl2
 refine max_intList (I.ok.hd hc) hl2 hsz fun v h' tk hv hk=>?_
 obtain ⟨t,rfl⟩:=intItems_at hv
 obtain ⟨h1,h2⟩:=argBest_gt (numAt xs) (xs.size - 1)
 refine ⟨.int _,H,I.kept (t':=tk) hk,⟨t,rfl⟩,q _ ?_ fun a ha=>?_⟩
 ·rw [hns,numAt_eq]; exact getD_mem (by rw [List.length_map,Array.length_toList]; omega)
 ·rw [hns] at ha
  obtain ⟨j,hj,rfl⟩:=mem_getD ha
  rw [List.length_map,Array.length_toList] at hj
  rw [← numAt_eq]; exact h2 j (by omega)
end
end L2
namespace Mx
open PySem PyProof.Rows
end Mx
namespace L2
open PySem PySem.Spec PyProof.Rows PySem.W
end L2
namespace K04
open PySem L2 PySem.W Nm Srt
abbrev rK:Stmt:=bD (bt 25) 5
abbrev tW:Stmt:=bD (bt 25) 6
def pS (C CF:Addr):Sp:=fun vs H Q _=>∃ (s dx fl D:Addr),vs=[.ref s]∧H s=some (.ins C dx (qk fl D))∧Q (.ref fl) H
def p9 (C CF:Addr):Sp:=fun vs H Q _=>∃ (s dx fl D:Addr)(zs:List V),vs=[.ref s]∧H s=some (.ins C dx (qk fl D))∧H D=some (.lst zs)∧∀ l,H l=none->Q (.ref l) (upd H l (.lst zs))
theorem xI:FnScope ["self"] ["self"] (ar rK):=eO (by decide +kernel)
theorem wZ:FnScope ["self"] ["self"] (ar tW):=eO (by decide +kernel)
variable {P:Program}{w:World}{K:PySem.W.Frag}{mg:Str->Option Value}{base:Heap}
theorem vE {f C CF:Addr}{fd:FuncData}(F:Fun K "field" "Sum.field" rK f fd)(c:SumK K mg C):FnOk P w K mg base (bz P w) 1 f fd ["self"] (pS C CF):=by
 refine F.okN xI (fun vs H Q E h=>?_) (fun cdv A outer s H vs Q E hr h=>?_)
 ·obtain ⟨s,dx,fl,D,rfl,_⟩:=h
  rfl
 ·obtain ⟨s0,dx,fl,D,rfl,hs,q⟩:=h
  exact ⟨_,av (aD (dA (pv 0) rfl)),_,rfl,s0,C,dx,_,_,rfl,hs,c.cl,c.nF,rfl,q⟩
theorem vq {f C CF:Addr}{fd:FuncData}(F:Fun K "terms" "Sum.terms" tW f fd)(c:SumK K mg C)(m_list:mg "list"=none):FnOk P w K mg base (bz P w) 1 f fd ["self"] (p9 C CF):=by
 refine F.okN wZ (fun vs H Q E h=>?_) (fun cdv A outer s H vs Q E hr h=>?_)
 ·obtain ⟨s,dx,fl,D,zs,rfl,_⟩:=h
  rfl
 ·obtain ⟨s0,dx,fl,D,zs,rfl,hs,hD,q⟩:=h
  refine ⟨_,av (aD (cE cL (by rfl) m_list (by rfl) (@aj _ _ _ _ _ (dA (pv 0) rfl) ae rfl))),?_⟩
  exact ⟨_,rfl,s0,C,dx,_,_,rfl,hs,c.cl,c.nT,rfl,D,zs,rfl,.inl (br.of hD),fun l hl=>q l hl⟩
end K04
namespace L2
open PySem PySem.Spec PyProof.Rows PySem.W
def v9 (H:Hp)(a:Addr):Hp:=fun b=>if b=a then none else H b
theorem ky (H:Hp)(a:Addr):v9 H a a=none:=if_pos rfl
theorem eX {H:Hp}{a b:Addr}(h:b≠a):v9 H a b=H b:=if_neg h
section
variable {P:Program}{w:World}{K:PySem.W.Frag}{mg:Str->Option Value}{base:Heap}{N:List Str}{qual:Str}{scope:Scope}{f:Addr}{cd:Value}{A:Around}{outer:List Env}{s:Shared}{H:Hp}{E:XK}
theorem iO:∀ (pins:List (Addr × Obj))(σ:St)(H1:Hp)(s1:Shared)(a C dx:Addr),Inv (dE (bz P w) P w K mg base N qual scope f cd A outer s H E) pins σ H1 s1->H1 a=some (dW a (.ref C) dx true) →
 (H a=none∧E (.ref C) (some dx) (v9 H1 a))->(dE (bz P w) P w K mg base N qual scope f cd A outer s H E).xe (.ref a) s1:=by
 intro pins σ H1 s1 a C dx I ea ⟨hn,hE⟩
 obtain ⟨o,vs,h1,h2,h3,h4,h5⟩:=hV I.hok ea
 obtain ⟨t,rfl⟩:=h5 rfl
 have bs:Un (di outer) [] H H1 s.heap s1.heap:=I.base
 have nS:s.heap.get? a=none:=by
  cases q:s.heap.get? a with
  | none=>rfl
  | some ob=>have z:=bs.free a ob q hn (by simp); rw [ea] at z; cases z
 generalize hst:di (dE (bz P w) P w K mg base N qual scope f cd A outer s H E).stack=fs
 have nfr:∀ b u,H1 b=some u->b ∉ fs:=fun b u e z=>by rw [I.stkFree b (hst ▸ z)] at e; cases e
 have inB:∀ b ob,s1.heap.get? b=some ob->b≠a->b ∉ fs->(hideAll s1.heap (a :: fs)).get? b=some ob:=fun b ob e n1 n2=>hideAll_get _ e (by simp [n1,n2])
 have ofB:∀ b ob,(hideAll s1.heap (a :: fs)).get? b=some ob->s1.heap.get? b=some ob:=fun b ob q=>of_hideAll _ q
 have nB:(hideAll s1.heap (a :: fs)).get? a=none:=hideAll_none _ List.mem_cons_self
 have fr1:s1.heap.FunFrames (hideAll s1.heap (a :: fs)) _:=funFrames_hide I.stack fun env he b hb=>List.mem_cons_of_mem _ (hst ▸ List.mem_filterMap.mpr ⟨env,he,hb⟩)
 have oldS:∀ b ob,s.heap.get? b=some ob->b≠a:=fun b ob e z=>by rw [z,nS] at e; cases e
 have old:∀ b ob,s.heap.get? b=some ob->b ∉ di outer->b ∉ fs:=fun b ob e n z=>by
  rcases List.mem_cons.mp (I.stkSub b (hst ▸ z)) with q | q
  ·exact absurd (Nat.lt_of_lt_of_le (Heap.lt_size e) I.ok.above) (by rw [q]; exact Nat.lt_irrefl _)
  ·exact n q
 refine lJ (B:=hideAll s1.heap (a :: fs)) (d:=some dx) (cls:=.ref C) (a0:=.ref t) I.ok.frames fr1 rfl ofB nB h1 h4 h2 h3 rfl rfl fun g x up=>?_
 refine ⟨a,.ref C,.ref t,_,some dx,v9 H1 a,rfl,I.os,I.bare,⟨x,⟨fun b ob e n hb _=>x.st b ob (inB b ob (bs.keep b ob e n hb (by simp)) (oldS b ob e) (old b ob e hb)),fun b ob e n hb _=>?_,fun b ob e n _=>?_,fun b ob e _=>?_,fun b xs e=>?_,fun b ob u e=>?_,fun b ps e=>?_⟩,
  fun b ob e n hb=>inB b ob (bs.keep b ob e n hb (by simp)) (oldS b ob e) (old b ob e hb),fun b ob e hb=>?_,fun b u e=>?_,ky _ _⟩,hE⟩
 ·obtain ⟨sl,e1⟩:=bs.slot b ob e n hb (by simp)
  obtain ⟨sl',e2⟩:=up b _ e1 fun ws q=>b7 I.funs hb e1 ws q
  exact ⟨sl',e2⟩
 ·rw [eX (oldS b ob e)]; exact bs.free b ob e n (by simp)
 ·obtain ⟨o',e1⟩:=bs.there b ob e (by simp)
  by_cases hb:b∈di outer
  ·obtain ⟨sl',e2⟩:=up b _ e1 fun ws q=>b7 I.funs hb e1 ws q
   exact ⟨_,e2⟩
  ·exact ⟨o',x.st b o' (inB b o' e1 (oldS b ob e) (old b ob e hb))⟩
 ·have z:=bs.tups b xs e
  rw [eX fun q=>by rw [q,ea] at z; cases z]; exact z
 ·have z:=bs.frzs b ob u e
  rw [eX fun q=>by rw [q,ea] at z; cases z]; exact z
 ·obtain ⟨m,z⟩:=bs.tbls b ps e
  exact ⟨m,by rw [eX fun q=>by rw [q,ea] at z; cases z]; exact z⟩
 ·obtain ⟨o',e1⟩:=bs.there b ob e (by simp)
  exact ⟨o',inB b o' e1 (oldS b ob e) (old b ob e hb)⟩
 ·have hb:b≠a:=fun z=>by rw [z,ky] at e; cases e
  rw [eX hb] at e
  refine (I.hok b u e).stay (fun c v hc q=>?_) (fun c q=>?_) fun c xs q=>?_
  ·rcases hc with rfl | hc
   ·exact inB c v q hb (nfr c u e)
   ·exact inB c v q (fun z=>by rw [z,ea] at hc; cases hc) (nfr c _ hc)
  ·rw [eX fun z=>by rw [z,ea] at q; cases q]; exact q
  ·rw [eX fun z=>by rw [z,ea] at q; cases q]; exact q
end
def fT (C:Addr)(f:Str):Sp:=fun vs H Q _=>∃ (a:Addr)(x:V),vs=[.ref a,x]∧H a=some (pR a (.ref C))∧∀ dx,H dx=none->dx≠a->Q .non (upd (upd H dx (fe dx [(f,x)])) a (dW a (.ref C) dx true))
structure IK (P:Program)(w:World)(K:Frag)(mg:Str->Option Value)(base:Heap)(x:Str)(C:Addr)(ps:List Str)(sp:Sp):Prop where
 m:mg x=some (.ref C)
 kp:keepIn K (.ref C)=true
 s:ExcS K C
 k:ExcK K C
 tc:d7 K C
 call:∃ f fd oI B Bn newId inN bmB bmN,ExcBaseFacts Bn newId inN bmN∧bmB.contains (.type Bn)=true∧InitBase B bmB∧nA K C f bmB newId=true∧K.lookup f=some oI∧oI.cls = .type "function"∧FnOk P w K mg base (bz P w) 1 f fd ps sp∧aH K fd ps []
def never:XK:=fun _ _ _=>False
section
variable {X:Cx}{x:Str}{C:Addr}{ps:List Str}{sp:Sp}{e:Expr}{es:List Expr}{t:TA}{p pos:Pos}{H:Hp}{Q:VK}{fld:Str}{v:V}
theorem IK.callR (k:IK X.prog X.w X.K X.mg X.base x C ps sp)(hr:Room 2 X.A):bU X (.ref C) (pD C sp never):=by
 obtain ⟨f,fd,oI,B,Bn,nw,inN,bmB,bmN,a1,a2,a3,a4,a5,a6,a7,a8⟩:=k.call
 exact uF a1 a2 a3 a4 a5 a6 a7 hr a8 ah
theorem A1 (k:IK X.prog X.w X.K X.mg X.base x C ps sp)(hr:Room 2 X.A)(hg:Gl X x)(ha:PA X (e :: es) t)(hs:fj e=false:=by rfl)(hpl:(backTo pos (starEach es X.env)).any (·.1)=false:=by rfl)(hdb:(x == ("__debug__":Str))=false:=by decide):
 PE X (.Call (.Name x p) (e :: es) [] pos) (C6 (pD C sp never) t):=xh (k.callR hr) k.kp hg k.m ha hdb (bu hs) hpl
theorem Dh (h:∀ a dx,H a=none->H dx=none->dx≠a->Q (.ref a) (upd (upd H dx (fe dx [(fld,v)])) a (dW a (.ref C) dx true))):pD C (fT C fld) never [v] H Q:=by
 refine ⟨(by decide:(1:Nat)≤sizeLine),fun a ha=>⟨a,v,rfl,ag,fun dx hn ne=>⟨rfl,?_⟩⟩⟩
 rw [aq ne] at hn
 have z:=h a dx ha hn ne
 have c:upd (upd (upd H a (pR a (.ref C))) dx (fe dx [(fld,v)])) a (dW a (.ref C) dx true)=upd (upd H dx (fe dx [(fld,v)])) a (dW a (.ref C) dx true):=by
  funext b
  by_cases h2:b=a
  ·subst h2; rw [ag,ag]
  ·rw [aq h2,aq h2]
   by_cases h1:b=dx
   ·subst h1; rw [ag,ag]
   ·rw [aq h1,aq h1,aq h2]
 rw [c]
 exact z
theorem AL {K:Frag}{E:XK}{H₀:Hp}(hk:ExcK K C)(ht:d7 K C)(h0:∀ a,H a=none->H₀ a=none)(h:∀ dx,H dx=none->E (.ref C) (some dx) (upd H dx (fe dx [(fld,v)]))):
 pD C (fT C fld) never [v] H fun x H1=>∃ a C' dx,x = .ref a∧H1 a=some (dW a (.ref C') dx true)∧ExcK K C'∧d7 K C'∧H₀ a=none∧E (.ref C') (some dx) (v9 H1 a):=by
 refine Dh fun a dx ha hd ne=>⟨a,C,dx,rfl,ag,hk,ht,h0 a ha,?_⟩
 have c:v9 (upd (upd H dx (fe dx [(fld,v)])) a (dW a (.ref C) dx true)) a=upd H dx (fe dx [(fld,v)]):=by
  funext b
  by_cases h2:b=a
  ·subst h2; rw [ky,aq (Ne.symm ne),ha]
  ·rw [eX h2,aq h2]
 rw [c]
 exact h dx hd
end
end L2
namespace K04
open PySem L2 PySem.W
abbrev yk:Stmt:=bD (bt 6) 0
theorem Ag:FnScope ["self","number"] ["self","number"] (ar yk):=eO (by decide +kernel)
theorem Th.isLst {K:Frag}{H:Hp}{x:V}{T:String}(h:Th H x T):kitOne K (.type T) (.type "list")=some (decide (T="list")):=by cases h <;> rfl
abbrev nj (CN:Addr)(H:Hp)(E:XK)(v:V):Prop:=∀ d H',aA H H'->H' d=some (fe d [("number",v)])->E (.ref CN) (some d) H'
def pz (C CN:Addr):Sp:=fun vs H Q E=>∃ (s dx:Addr)(p:Int)(x:V),vs=[.ref s,x]∧H s=some (.ins C dx (dD p))∧FP p ∧
 ((x = .non∧∀ l,H l=none->Q (.ref l) (upd H l (.lst []))) ∨
  (x ≠ .non∧(∃ T,Th H x T∧T ≠ "list")∧nj CN H E .non) ∨
  ∃ (l:Addr)(ys:List V)(k:Nat),x = .ref l∧H l=some (.lst ys)∧ys.length < 4000∧(∀ i y,i < k->ys[i]?=some y->TmX p H y true) ∧
    ((k=ys.length∧∀ H',aA H H'->Q (.ref l) H')∨∃ y,ys[k]?=some y∧TmX p H y false∧nj CN H E (.int k)))
variable {P:Program}{w:World}{K:PySem.W.Frag}{mg:Str->Option Value}{base:Heap}
theorem v3 {f C:Addr}{fd:FuncData}(F:Fun K "__init__" "NoSum.__init__" yk f fd)(k:ExcS K C)(n:cn K C "number"):FnOk P w K mg base (bz P w) 1 f fd ["self","number"] (fT C "number"):=by
 refine F.okN Ag (fun vs H Q E h=>?_) (fun cdv A outer s H vs Q E hr h=>?_)
 ·obtain ⟨a,x,rfl,_⟩:=h
  rfl
 ·obtain ⟨a,x,rfl,e,q⟩:=h
  refine ⟨_,av (v7 (pv 0) (pv 1) rfl),?_⟩
  exact ⟨_,rfl,_,rfl,a,C,rfl,e,k,n,q⟩
theorem uW {f ft C CN:Addr}{fd fdt:FuncData}(F:Fun K "checked_terms" "checked_terms" pC f fd)(m_isinstance:mg "isinstance"=none)(m_list:mg "list"=none)(m_enumerate:mg "enumerate"=none)
 (kN:IK P w K mg base "NoSum" CN ["self","number"] (fT CN "number"))
 (FT:FnOk P w K mg base (bz P w) 4 ft fdt ["field","thing"] (ye C))(bT:L2.aH K fdt ["field","thing"] [])(mT:mg "is_term"=some (.ref ft))(kT:keepIn K (.ref ft)=true):FnOk P w K mg base (bz P w) 5 f fd ["field","terms"] (pz C CN):=by
 refine F.okE iq (fun vs H Q E h=>?_) (fun cdv A outer s H vs Q E hr h=>?_)
 ·obtain ⟨s,dx,p,x,rfl,_⟩:=h
  rfl
 ·obtain ⟨s0,dx,p,x,rfl,hs,hp,h⟩:=h
  have hr4:Room 4 _:=hr.mono (by decide)
  have hr2:Room 2 _:=hr.mono (by decide)
  refine ⟨_,(ao (bJ (@aJ _ _ _ _ _ _ _ _ By (pv 1) eW (aI _)) (av (aD (@bM _ _ _ _ ae))) aO)
   (ao (bJ (cc (cb (az bw (by rfl) m_isinstance (by rfl) (@aj _ _ _ _ _ (pv 1) (@aj _ _ _ _ _ (cA (by rfl) m_list (by rfl) (show aE (.ty "list") (.type "list") from rfl)) ae rfl) rfl)))) (av (mj (R:=fun _ a C dx H1=>H a=none∧E (.ref C) (some dx) (v9 H1 a)) rfl iO (A1 kN hr2 (by rfl) (@aj _ _ _ _ _ eW ae rfl)))) aO)
   (ao (gD (by passes_own) rfl (sv (pv 1) (by rfl) m_enumerate) (dX rfl (bo (aR (i:=2) iq.nd rfl (Or.inl rfl)) (bo (aR (i:=3) iq.nd rfl (Or.inl rfl)) c0)))
   (av (bJ (cc (cb (aB FT hr4 (by rfl) mT kT bT .nil ah (@aj _ _ _ _ _ (pv 0) (@aj _ _ _ _ _ (pv 3) ae rfl) rfl)))) (av (mj (R:=fun _ a C dx H1=>H a=none∧E (.ref C) (some dx) (v9 H1 a)) rfl iO (A1 kN hr2 (by rfl) (@aj _ _ _ _ _ (pv 2) ae rfl)))) aO)))
   (av (aD (pv 1)))))),?_⟩
  rcases h with ⟨rfl,q⟩ | ⟨hx,⟨T,ht,hk⟩,q⟩ | ⟨l,ys,k,rfl,hl,hlen,hys,h⟩
  ·refine ⟨_,rfl,rfl,_,rfl,?_⟩
   exact bV ⟨Nat.zero_le _,fun l hl=>q l hl⟩
  ·refine ⟨_,rfl,rfl,decide (x = .non),rfl,?_⟩
   rw [decide_eq_false hx]
   refine cf ⟨_,rfl,x,.ty "list",.type T,_,false,rfl,rfl,ht.ty,(by rw [ht.isLst,decide_eq_false hk]),_,rfl,bV ?_⟩
   exact AL kN.k kN.tc (fun a ha=>ha) fun dx hd=>q dx _ (ak hd) ag
  ·refine ⟨_,rfl,rfl,_,rfl,cf ?_⟩
   refine ⟨_,rfl,.ref l,.ty "list",_,_,_,rfl,rfl,.of (.lst hl),rfl,_,rfl,cf ?_⟩
   refine ⟨_,rfl,l,ys,rfl,br.of hl,?_⟩
   have hk:k≤ys.length:=by
    rcases h with ⟨h,_⟩ | ⟨y,h,_⟩
    ·omega
    ·exact Nat.le_of_lt (List.getElem?_eq_some_iff.mp h).1
   refine ⟨fun i m σ' H'=>m=ys.length - i∧i≤k∧aA H H'∧∃ o1 o2,σ'=[some (.ref s0),some (.ref l),o1,o2],⟨ys.length,by simp,Nat.zero_le _,aA.refl _,none,none,rfl⟩,?_⟩
   rintro i m σ' H' ⟨rfl,hi,sH,o1,o2,rfl⟩
   have hl':=sH _ _ hl
   by_cases hlt:i < ys.length
   ·refine .inr ⟨⟨ys,ys[i],br.of hl',by simp [hlt]⟩,fun σ' H'=>i + 1≤k∧aA H H'∧∃ o1 o2,σ'=[some (.ref s0),some (.ref l),o1,o2],?_,fun v H2 hv=>?_⟩
    ·rintro σ' H' ⟨h1,h2,h3⟩
     exact ⟨ys.length - (i + 1),by omega,rfl,h1,h2,h3⟩
    ·obtain ⟨T,y,hy,hT,rfl,rfl⟩:=hv
     have ey:=hy ys (br.of hl')
     have s2:aA H (upd H' T (.tup [.int i,y])):=fun c u e=>by
      rw [aq (au (sH _ _ e) hT)]
      exact sH _ _ e
     refine ⟨T,_,rfl,bf.of ag,rfl,_,_,rfl,_,_,rfl,rfl,?_⟩
     by_cases hik:i < k
     ·have ty:=(hys i y hik ey).same s2
      refine ⟨_,rfl,_,rfl,s0,dx,p,y,true,rfl,s2 _ _ hs,hp,ty,fun H3 s3=>⟨_,rfl,cf ?_⟩⟩
      exact ⟨hik,fun c u e=>s3 _ _ (s2 _ _ e),_,_,rfl⟩
     ·have ei:i=k:=by omega
      rcases h with ⟨h,_⟩ | ⟨y',h,ty,q⟩
      ·omega
      ·have e2:y=y':=by rw [← ei,ey] at h; exact Option.some.inj h
       subst e2
       refine ⟨_,rfl,_,rfl,s0,dx,p,y,false,rfl,s2 _ _ hs,hp,ty.same s2,fun H3 s3=>⟨_,rfl,bV ?_⟩⟩
       have s4:aA H H3:=fun c u e=>s3 _ _ (s2 _ _ e)
       refine ⟨_,rfl,AL kN.k kN.tc (fun a ha=>?_) fun dx hd=>?_⟩
       ·cases z:H a with
        | none=>rfl
        | some u=>rw [s4 _ _ z] at ha; cases ha
       ·subst ei
        exact q dx _ (s4.trans (ak hd)) ag
   ·refine .inl ⟨⟨ys,br.of hl',by omega⟩,?_⟩
    rcases h with ⟨h,q⟩ | ⟨y',h,_⟩
    ·exact ⟨_,rfl,q _ sH⟩
    ·have:=(List.getElem?_eq_some_iff.mp h).1
     omega
open Nm Srt
def iV (H H':Hp):Prop:=∀ b u,H b=some u->(∀ C dx fs,u ≠ .ins C dx fs)->H' b=some u
theorem iV.upd {H:Hp}{s C dx:Addr}{fs:List (Str × V)}{o:HO}(hs:H s=some (.ins C dx fs)):iV H (upd H s o):=fun b u e n=>by
 rw [aq fun z=>by rw [z,hs] at e; cases e; exact n _ _ _ rfl]; exact e
theorem Th.keepO {H H':Hp}{x:V}{T:String}(h:Th H x T)(k:iV H H'):Th H' x T:=by
 cases h with
 | non=>exact .non
 | bl b=>exact .bl b
 | int i=>exact .int i
 | str y=>exact .str y
 | lst e=>exact .lst (k _ _ e fun _ _ _ z=>by cases z)
 | tup e=>exact .tup (k _ _ e fun _ _ _ z=>by cases z)
 | dK e=>exact .dK (k _ _ e fun _ _ _ z=>by cases z)
theorem PX.keepO {H H':Hp}{x:V}{o:Option (List V)}(h:PX H x o)(k:iV H H'):PX H' x o:=by
 cases h with
 | no th n=>exact .no (th.keepO k) n
 | tup e l h=>exact .tup (k _ _ e fun _ _ _ z=>by cases z) l fun y hy=>let ⟨T,t⟩:=h y hy; ⟨T,t.keepO k⟩
theorem TX.keepO {H H':Hp}{x:V}{o:Option (V × V)}(h:TX H x o)(k:iV H H'):TX H' x o:=by
 cases h with
 | no th n=>exact .no (th.keepO k) n
 | odd e n=>exact .odd (k _ _ e fun _ _ _ z=>by cases z) n
 | two e h1 h2=>exact .two (k _ _ e fun _ _ _ z=>by cases z) (h1.keepO k) (h2.keepO k)
theorem TmX.keepO {p:Int}{H H':Hp}{x:V}{b:Bool}(h:TmX p H x b)(k:iV H H'):TmX p H' x b:=by
 cases h with
 | no th n=>exact .no (th.keepO k) n
 | odd e n=>exact .odd (k _ _ e fun _ _ _ z=>by cases z) n
 | two e h1 h2=>exact .two (k _ _ e fun _ _ _ z=>by cases z) (h1.keepO k) (h2.keepO k)
def l7 (p:Int)(H:Hp)(x v:V):Prop:=(v = .non∧x ≠ .non∧∃ T,Th H x T∧T ≠ "list") ∨
 ∃ (l:Addr)(ys:List V)(k:Nat)(y:V),v = .int k∧x = .ref l∧H l=some (.lst ys)∧ys.length < 4000∧(∀ i y,i < k->ys[i]?=some y->TmX p H y true)∧ys[k]?=some y∧TmX p H y false
def eV (C CF CN:Addr):Sp:=fun vs H Q E=>Ae C CF vs H Q E∨∃ (s dx fl dxf:Addr)(p:Int)(x v:V),vs=[.ref s,.ref fl,x]∧H s=some (.ins C dx [])∧H fl=some (.ins CF dxf (dD p))∧FP p∧l7 p H x v ∧
 ∀ d H',SameBut s H H'->H' d=some (fe d [("number",v)])->E (.ref CN) (some d) H'
theorem vw {f fg fc C CF CN T:Addr}{fd fdg fdc:FuncData}(F:FunD K "__init__" "Sum.__init__" iw f fd T)(c:SumK K mg C)
 (FG:FnOk P w K mg base (bz P w) 5 fg fdg ["field","terms"] (qm CF))(bG:L2.aH K fdg ["field","terms"] [])(mG:mg "gathered"=some (.ref fg))(kG:keepIn K (.ref fg)=true)
 (FC:FnOk P w K mg base (bz P w) 5 fc fdc ["field","terms"] (pz CF CN))(bC:L2.aH K fdc ["field","terms"] [])(mC:mg "checked_terms"=some (.ref fc))(kC:keepIn K (.ref fc)=true):
 FnOk P w K mg base (bz P w) 6 f fd ["self","field","terms"] (eV C CF CN):=by
 refine F.okE yU (fun vs H Q E h=>?_) (fun cdv A outer s H vs Q E hr h=>?_)
 ·rcases h with ⟨s,dx,fl,dxf,p,x,ts,m,rfl,_⟩ | ⟨s,dx,fl,dxf,p,x,v,rfl,_⟩ <;> rfl
 ·have hr5:Room 5 _:=hr.mono (by decide)
  refine ⟨_,ao (qu (pv 0) (pv 1) rfl) (av (qu (pv 0) (aB FG hr5 (by rfl) mG kG bG .nil ah (@aj _ _ _ _ _ (pv 1) (@aj _ _ _ _ _ (aB FC hr5 (by rfl) mC kC bC .nil qK (@aj _ _ _ _ _ (pv 1) (@aj _ _ _ _ _ (pv 2) ae rfl) rfl)) ae rfl) rfl)) rfl)),?_⟩
  have nfs:∀ {s0 fl dx dxf:Addr}{p:Int},H s0=some (.ins C dx [])->H fl=some (.ins CF dxf (dD p))->fl≠s0:=fun hs hf z=>by
   rw [z,hs] at hf
   injection hf with hf
   injection hf with _ _ hf
   cases hf
  rcases h with ⟨s0,dx,fl,dxf,p,x,ts,m,rfl,hs,hf,hp,hx,h64,hG,hm,hm2,q⟩ | ⟨s0,dx,fl,dxf,p,x,v,rfl,hs,hf,hp,hw,q⟩
  ·refine ⟨_,rfl,_,rfl,s0,C,dx,_,rfl,hs,c.cl,c.nF,by decide,?_⟩
   have hf1:upd H s0 (.ins C dx (c8 "its_field" (.ref fl) [])) fl=some (.ins CF dxf (dD p)):=by rw [aq (nfs hs hf)]; exact hf
   have kT:aF H (upd H s0 (.ins C dx (c8 "its_field" (.ref fl) []))):=aF.upd fun xs z=>by rw [hs] at z; cases z
   have fin:∀ (H2:Hp)(l:Addr)(ys:List V),aA (upd H s0 (.ins C dx (c8 "its_field" (.ref fl) []))) H2->H2 l=some (.lst ys)->bh H2 ys ts->qm CF [.ref fl,.ref l] H2 (fun y H1=>dF 0 [some (.ref s0),some (.ref fl),some x] H1 fun x2 H2=>∃ a C dx fs,x2 = .ref a∧H2 a=some (.ins C dx fs)∧Cls K C∧cn K C "its_terms"∧fs.length < 1000 ∧
    Q .non (upd H2 a (.ins C dx (c8 "its_terms" y fs)))) fun _ _ _=>False:=by
    intro H2 l ys s2 hl ht
    refine ⟨fl,dxf,l,p,ys,ts,m,rfl,s2 _ _ hf1,hp,hl,ht,h64,fun t ht=>(hG t ht).1,hm,hm2,fun H3 D zs s3 h0 hD hz=>?_⟩
    have hs3:H3 s0=some (.ins C dx (c8 "its_field" (.ref fl) [])):=s3 _ _ (s2 _ _ ag)
    refine ⟨_,rfl,s0,C,dx,_,rfl,hs3,c.cl,c.nT,(by show 1 < 1000; decide),?_⟩
    have nD:D≠s0:=fun z=>by rw [z,hs3] at hD; cases hD
    refine q _ D zs (fun b u e nb=>?_) (none_of (fun c u e=>e) (by
     cases e:H D with
     | none=>rfl
     | some u=>rw [s2 D u (by rw [aq nD]; exact e)] at h0; cases h0)) ag (by rw [aq nD]; exact hD) (bh.keep hz (aF.upd fun xs z=>by rw [hs3] at z; cases z))
    rw [aq nb]
    exact s3 _ _ (s2 _ _ (by rw [aq nb]; exact e))
   rcases hx with ⟨rfl,rfl⟩ | ⟨l,ys,rfl,hl,ht⟩
   ·refine ⟨_,rfl,_,rfl,_,rfl,fl,dxf,p,.non,rfl,hf1,hp,.inl ⟨rfl,fun l hl=>?_⟩⟩
    exact fin _ l [] (ak hl) ag .nil
   ·have nl:l≠s0:=fun z=>by rw [z,hs] at hl; cases hl
    have hl1:upd H s0 (.ins C dx (c8 "its_field" (.ref fl) [])) l=some (.lst ys):=by rw [aq nl]; exact hl
    have ht1:=bh.keep ht kT
    refine ⟨_,rfl,_,rfl,_,rfl,fl,dxf,p,.ref l,rfl,hf1,hp,.inr (.inr ⟨l,ys,ys.length,rfl,hl1,?_,fun i y _ e=>yj ht1 hG y (List.mem_of_getElem? e),.inl ⟨rfl,fun H2 s2=>?_⟩⟩)⟩
    ·rw [ht.length]; omega
    ·exact fin _ l ys s2 (s2 _ _ hl1) (bh.keep ht1 (aF.of s2))
  ·refine ⟨_,rfl,_,rfl,s0,C,dx,_,rfl,hs,c.cl,c.nF,by decide,?_⟩
   have hf1:upd H s0 (.ins C dx (c8 "its_field" (.ref fl) [])) fl=some (.ins CF dxf (dD p)):=by rw [aq (nfs hs hf)]; exact hf
   have kO:iV H (upd H s0 (.ins C dx (c8 "its_field" (.ref fl) []))):=iV.upd hs
   have rf:nj CN (upd H s0 (.ins C dx (c8 "its_field" (.ref fl) []))) E v:=fun d H' s1 hd=>q d H' (fun b u e nb=>s1 _ _ (by rw [aq nb]; exact e)) hd
   rcases hw with ⟨rfl,hx,T,th,hT⟩ | ⟨l,ys,k,y,rfl,rfl,hl,hz,hys,hy,ty⟩
   ·exact ⟨_,rfl,_,rfl,_,rfl,fl,dxf,p,x,rfl,hf1,hp,.inr (.inl ⟨hx,⟨T,th.keepO kO,hT⟩,rf⟩)⟩
   ·exact ⟨_,rfl,_,rfl,_,rfl,fl,dxf,p,.ref l,rfl,hf1,hp,.inr (.inr ⟨l,ys,k,rfl,kO _ _ hl (fun _ _ _ z=>by cases z),hz,fun i y hi e=>(hys i y hi e).keepO kO,.inr ⟨y,hy,ty.keepO kO,rf⟩⟩)⟩
end K04
namespace L2
open PySem PySem.Spec PyProof.Rows PySem.W
def mK (CX:CXT)(X:Cx)(E:St->XK):Prop:=∀ (pins:List (Addr × Obj))(σ:St)(H:Hp)(s:Shared)(e:Value)(s':Shared),Inv X pins σ H s->CX X.stack H s (E σ) e s'->X.xe e s'
def wk (C:Addr)(sp:Sp)(dvs:List V)(E:St->XK)(t:TA):TE:=fun σ H Q=>A0 C sp dvs (E σ) t σ H Q
section
variable {X:Cx}{CX:CXT}{k:Nat}{f C:Addr}{fd:FuncData}{ps:List Str}{sp:Sp}{E:St->XK}{x:Str}{p pos:Pos}{e:Expr}{es:List Expr}{t:TA}{ds:List Value}{dvs:List V}
theorem uN {pins:List (Addr × Obj)}{σ:St}{H:Hp}{s:Shared}{Q:VK}{us:List Value}{vs:List V}(M:Mk X.K C f)(F:FnOk X.prog X.w X.K X.mg X.base CX k f fd ps sp)(hr:Room (k + 1) X.A)(hb:aH X.K fd ps ds)(hd:aG dvs ds)
 (hx:mK CX X E)(I:Inv X pins σ H s)(r:aG vs us)
 (h:∀ x dx,H x=none->H dx=none->dx≠x->sp (.ref x :: (vs++dvs)) (upd (upd H dx (.own x)) x (.ins C dx [])) (fun v H2=>v = .non∧Q (.ref x) H2) (E σ)):
 wpAny (model X.prog X.w) X.A (call (.ref C) us) (EP X pins σ Q) X.xe s:=by
 have q0:=h (s.heap.objs.size + 1) s.heap.objs.size (I.hok.fresh (Nat.le_succ _)) (I.hok.fresh (Nat.le_refl _)) (Nat.ne_of_lt (Nat.lt_succ_self _))
 have J:=Inv.made (C:=C) I
 have rr:aG (V.ref (s.heap.objs.size + 1):: (vs++dvs)) (Value.ref (s.heap.objs.size + 1):: (us++ds)):=.cons rfl (r.append hd)
 have len:(Value.ref (s.heap.objs.size + 1):: us++ds).length=ps.length:=by
  have z:=rr.length
  rw [F.len _ _ _ _ q0] at z
  exact z.symm
 refine wpAny_call (gY (f:=f) I.kIn M.makes M.init (beq_iff_eq.mp M.fn) (codeAny_mono (F.run _ X.stack _ _ ⟨Value.ref (s.heap.objs.size + 1):: us,[]⟩ (Value.ref (s.heap.objs.size + 1):: (us++ds)) _ _ (E σ) (hr.make C us [])
  (J.env0.make C us []) (hb _ (Value.ref (s.heap.objs.size + 1):: us) J.kIn len) rr q0) fun res s' z=>?_))
 cases res with
 | error e=>exact hx pins σ _ _ e s' J z
 | ok fl =>
   cases fl with
   | ret u =>
     obtain ⟨v,H',J3,rv,ev,q3⟩:=J.after z
     subst ev
     exact ⟨rv,⟨V.ref (s.heap.objs.size + 1),H',J3,rfl,q3⟩⟩
   | next=>exact False.elim z
   | brk=>exact False.elim z
   | cont=>exact False.elim z
theorem yv (M:Mk X.K C f)(F:FnOk X.prog X.w X.K X.mg X.base CX k f fd ps sp)(hr:Room (k + 1) X.A)(hg:Gl X x)(hm:X.mg x=some (.ref C))(hb:aH X.K fd ps ds)(hd:aG dvs ds)(hx:mK CX X E)
 (ha:PA X (e :: es) t)(hdb:(x == ("__debug__":Str))=false:=by decide)(he:starEach (e :: es) X.env=(false,eval e X.env):: starEach es X.env:=by rfl)(hpl:(backTo pos (starEach es X.env)).any (·.1)=false:=by rfl):
 PE X (.Call (.Name x p) (e :: es) [] pos) (wk C sp dvs E t):=by
 intro pins s σ H Q I h
 refine wpAny_Call_Name_kw (c4 I hg hm ?_ hdb)
 refine PySem.W.callWith_K (h₀:=X.base) I.ok.mod.kin M.kp (bH (ha pos pins s σ H _ I h) fun us s1 ⟨vs,H1,I1,r,q⟩=>⟨I1.kIn,?_⟩) he hpl
 exact uN M F hr hb hd hx I1 r q
theorem p8 {pins:List (Addr × Obj)}:mK (bz X.prog X.w) (X.tr pins E) E:=qx
theorem mn:∀ {cs:List Addr}{us:List Value},aG (cs.map V.ref) us->us=cs.map Value.ref
 | [],us,r=>by cases r; rfl
 | c :: cs,us,r=>by
   rw [List.map_cons] at r
   cases r with
   | cons h t=>rw [List.map_cons,← mn t,show _=Value.ref c from h]
theorem nO:bU X (.builtin "isinstance") (fun xs H Q=>∃ (a C dx:Addr)(fr:Bool)(tp:Addr)(cs:List Addr)(b:Bool),xs=[.ref a,.ref tp]∧H a=some (dW a (.ref C) dx fr)∧ExcK X.K C∧H tp=some (.tup (cs.map V.ref))∧kitAny X.K (.ref C) (cs.map Value.ref)=some b∧Q (.bl b) H):=by
 intro pins s σ H xs us Q I r h
 obtain ⟨a,C,dx,fr,tp,cs,b,rfl,ea,k,et,e,q⟩:=h
 cases r with
 | cons r1 r2 =>
   cases r2 with
   | cons r2 r3 =>
     cases r3
     rename_i u ut
     cases (show u=Value.ref a from r1)
     cases (show ut=Value.ref tp from r2)
     obtain ⟨o,vs,h1,h2,_⟩:=hV I.hok ea
     obtain ⟨its,rv,⟨⟨oc,od,oda,osl⟩,e1,hc,n,hd⟩,_⟩:=I.tuple (bf.of et)
     have ei:=mn rv
     subst ei
     dsimp only at hc hd
     subst hc hd
     exact kia_tup (kb k) I.kIn ⟨o,h1,h2⟩ e1 e (fun z=>nomatch z) fun tk=>⟨.bl b,H,I.tok tk,rfl,q⟩
def Da (K:Frag):List V->Hp->VK->Prop:=fun xs H Q=>∃ (a C dx:Addr)(fr:Bool)(tp:Addr)(cs:List Addr)(b:Bool),xs=[.ref a,.ref tp]∧H a=some (dW a (.ref C) dx fr)∧ExcK K C∧H tp=some (.tup (cs.map V.ref))∧kitAny K (.ref C) (cs.map Value.ref)=some b∧Q (.bl b) H
def Bz (K:Frag):List V->Hp->VK->Prop:=fun xs H Q=>∃ a C dx fr c cv b,xs=[.ref a,c]∧Bs c cv∧H a=some (dW a (.ref C) dx fr)∧ExcK K C∧kitOne K (.ref C) cv=some b∧Q (.bl b) H
theorem u5 {K:Frag}(hK:X.K=K):bU X (.builtin "isinstance") (Da K):=by subst hK; exact nO
theorem lZ {K:Frag}(hK:X.K=K):bU X (.builtin "isinstance") (Bz K):=by subst hK; exact mE
end
end L2
namespace K04
open PySem L2 PySem.W Nm Srt
abbrev ng:Stmt:=(bt 48)
structure Good (p:Int)(H:Hp)(x:V)(ts:List Tm)(m:Nat):Prop where
 x:(x = .non∧ts=[])∨∃ l ys,x = .ref l∧H l=some (.lst ys)∧bh H ys ts
 few:ts.length < 64
 gn:∀ t∈ts,Gn p m t.2∧Ah t.1
 b1:(m + 1) * ts.length + 7≤4000
 b2:m≤4000
structure RefN (P:Program)(w:World)(K:Frag)(mg:Str->Option Value)(base:Heap)(FE NF NN CN:Addr):Prop where
 ik:IK P w K mg base "NoSum" CN ["self","number"] (fT CN "number")
 no:cn K CN "number"
 x:PySem.W.exmOne K (.ref CN) (.ref CN)=some true
 mFE:mg "FalseError"=some (.ref FE)
 mNF:mg "NoField"=some (.ref NF)
 mNN:mg "NoNumber"=some (.ref NN)
 mVE:mg "ValueError"=none
 a1:kitAny K (.ref CN) [.ref NF,.ref NN]=some false
 a2:kitOne K (.ref CN) (.ref FE)=some true
 a3:kitOne K (.ref CN) (.type "ValueError")=some true
def sC (CF:Addr):Sp:=fun vs H Q _=>∃ (fl dxf:Addr)(p:Int)(x:V),vs=[.ref fl,x]∧H fl=some (.ins CF dxf (dD p))∧FP p ∧
 ((∃ ts m,Good p H x ts m∧∀ H',aA H H'->Q (.str "told") H')∨∃ v,l7 p H x v∧∀ H',aA H H'->Q v H')
theorem tT:FnScope ["_law_own","_law_some","e"] ["_law_own","_law_some"] (ar ng):=eO (by decide +kernel)
variable {P:Program}{w:World}{K:PySem.W.Frag}{mg:Str->Option Value}{base:Heap}
theorem l7.same {p:Int}{H H':Hp}{x v:V}(h:l7 p H x v)(s:aA H H'):l7 p H' x v:=by
 rcases h with ⟨a,b,T,th,n⟩ | ⟨l,ys,k,y,a,b,hl,hz,hys,hy,ty⟩
 ·exact .inl ⟨a,b,T,th.same s,n⟩
 ·exact .inr ⟨l,ys,k,y,a,b,s _ _ hl,hz,fun i y hi e=>(hys i y hi e).same s,hy,ty.same s⟩
theorem fP {H H':Hp}{s dx:Addr}{o u:HO}(h1:H s=none)(h2:H dx=none)(ne:dx≠s)(k:SameBut s (upd (upd H dx o) s u) H'):aA H H':=fun b v e=>by
 have b1:b≠s:=au e h1
 have b2:b≠dx:=au e h2
 exact k b v (by rw [aq b1,aq b2]; exact e) b1
theorem wB {f fi C CF FE NF NN CN:Addr}{fd fdi:FuncData}(F:Fun K "_law_number_of" "_law_number_of" ng f fd)(c:SumK K mg C)(M:Mk K C fi)(m_isi:mg "isinstance"=none)(R:RefN P w K mg base FE NF NN CN)
 (FI:FnOk P w K mg base (bz P w) 6 fi fdi ["self","field","terms"] (eV C CF CN))(bI:L2.aH K fdi ["self","field","terms"] []):FnOk P w K mg base (bz P w) 8 f fd ["_law_own","_law_some"] (sC CF):=by
 refine F.okN tT (fun vs H Q E h=>?_) (fun cdv A outer s H vs Q E hr h=>?_)
 ·obtain ⟨fl,dxf,p,x,rfl,_⟩:=h
  rfl
 ·obtain ⟨fl,dxf,p,x,rfl,hf,hp,h⟩:=h
  have hr7:Room 7 _:=hr.mono (by decide)
  refine ⟨_,(ao (BS (i:=2) rfl rfl tT.nd rfl rfl (by rfl) R.ik.m (fun pins E'=>av (fU (show PE (Cx.tr (dE (bz P w) P w K mg base ["_law_own","_law_some","e"] "_law_number_of" (ar ng) f cdv A outer s H E).nox pins E') _ (wk C (eV C CF CN) [] E' (cT (dF 0) (cT (dF 1) tNil))) from
   yv M FI hr7 (by rfl) c.mgC bI .nil p8 (@aj _ _ _ _ _ (pv 0) (@aj _ _ _ _ _ (pv 1) ae rfl) rfl))))
   (fun a=>ao (bJ (PW.pt (cH (cb (az (show bU _ _ (Da K) from u5 rfl) (by rfl) m_isi (by rfl) (@aj _ _ _ _ _ (pv 2) (@aj _ _ _ _ _ (@aC _ _ _ _ _ (@aj _ _ _ _ _ (dh (by rfl) R.mNF (show aE (.ref NF) (.ref NF) from rfl)) (@aj _ _ _ _ _ (dh (by rfl) R.mNN (show aE (.ref NN) (.ref NN) from rfl)) ae rfl) rfl)) ae rfl) rfl)))
    (cH (cc (cb (az (show bU _ _ (Bz K) from lZ rfl) (by rfl) m_isi (by rfl) (@aj _ _ _ _ _ (pv 2) (@aj _ _ _ _ _ (dh (by rfl) R.mFE (show aE (.ref FE) (.ref FE) from rfl)) ae rfl) rfl))))
    (de (cc (cb (az (show bU _ _ (Bz K) from lZ rfl) (by rfl) m_isi (by rfl) (@aj _ _ _ _ _ (pv 2) (@aj _ _ _ _ _ (cA (by rfl) R.mVE (by rfl) (show aE (.ty "ValueError") (.type "ValueError") from rfl)) ae rfl) rfl)))))))) (av (aD gr)) aO)
    (av (aD (show PE (Cx.hd (dE (bz P w) P w K mg base ["_law_own","_law_some","e"] "_law_number_of" (ar ng) f cdv A outer s H E).nox a) _ (AH K (dF 2) "number") from @zm _ _ _ _ _ (pv 2) rfl)))))
   (av (aD gr))),?_⟩
  refine ⟨_,rfl,_,rfl,fun s0 dx h1 h2 ne=>?_⟩
  have hS:aA H (upd (upd H dx (.own s0)) s0 (.ins C dx [])):=(ak h2).trans (ak (by rw [aq (Ne.symm ne)]; exact h1))
  rcases h with ⟨ts,m,g,q⟩ | ⟨v,hw,q⟩
  ·refine .inl ⟨s0,dx,fl,dxf,p,x,ts,m,rfl,ag,hS _ _ hf,hp,?_,g.few,g.gn,g.b1,g.b2,fun H' D zs k _ _ _ _=>⟨rfl,q _ (fP h1 h2 ne k)⟩⟩
   rcases g.x with g | ⟨l,ys,e,hl,ht⟩
   ·exact .inl g
   ·exact .inr ⟨l,ys,e,hS _ _ hl,bh.keep ht (aF.of hS)⟩
  ·refine .inr ⟨s0,dx,fl,dxf,p,x,v,rfl,ag,hS _ _ hf,hp,hw.same hS,fun d H' k hd=>⟨R.x,fun a ha=>?_⟩⟩
   have sH:=fP h1 h2 ne k
   have nda:d≠a:=au hd ha
   refine ⟨.ref a,rfl,(by decide:(2:Nat)≤sizeLine),fun tp htp=>?_⟩
   have nat:a≠tp:=fun z=>by rw [← z] at htp; have:=(ag (H:=H') (a:=a) (o:=u7 a (.ref CN) (some d))).symm.trans htp; cases this
   have ea:upd (upd H' a (u7 a (.ref CN) (some d))) tp (.tup [.ref NF,.ref NN]) a=some (dW a (.ref CN) d false):=by rw [aq nat]; exact ag
   have ed:upd (upd H' a (u7 a (.ref CN) (some d))) tp (.tup [.ref NF,.ref NN]) d=some (fe d [("number",v)]):=by
    have ndt:d≠tp:=fun z=>by
     rw [← z,aq nda,hd] at htp
     cases htp
    rw [aq ndt,aq nda]
    exact hd
   refine ⟨a,CN,d,false,tp,[NF,NN],false,rfl,ea,R.ik.k,ag,R.a1,_,rfl,cf ?_⟩
   refine ⟨_,rfl,a,CN,d,false,.ref FE,.ref FE,true,rfl,rfl,ea,R.ik.k,R.a2,_,rfl,cf ?_⟩
   refine ⟨_,rfl,a,CN,d,false,.ty "ValueError",.type "ValueError",true,rfl,rfl,ea,R.ik.k,R.a3,_,rfl,cf ?_⟩
   exact ⟨_,rfl,a,CN,d,false,_,v,rfl,ea,ed,R.ik.s,R.no,rfl,q _ ((sH.trans (ak ha)).trans (ak htp))⟩
end K04
namespace L2
open PySem PySem.Spec PyProof.Rows PySem.W
section
variable {X:Cx}{CX:CXT}{k:Nat}{f C:Addr}{fd:FuncData}{ps:List Str}{sp:Sp}{E:XK}
theorem ff (hs:findIn X.K (.ref C) "__len__"=some (some (.ref f)))(hf:isFn X.K (.ref f)=true)(F:FnOk X.prog X.w X.K X.mg X.base CX k f fd ps sp)(hr:Room (k + 1) X.A)(hb:aH X.K fd ps [])(hx:cM CX X E):
 bU X (.builtin "len") (fun xs H Q=>∃ p dx fs,xs=[.ref p]∧H p=some (.ins C dx fs)∧sp [.ref p] H (fun v H'=>∃ n:Nat,v = .int n∧n < 2 ^ 62∧Q (.int n) H') E):=by
 intro pins s σ H xs us Q I r h
 obtain ⟨p,dx,fs,rfl,ep,q⟩:=h
 obtain ⟨u,rfl,ru⟩:=dH r
 cases (show u=Value.ref p from ru)
 obtain ⟨mA,O,_⟩:=eB I.hok ep
 obtain ⟨od,J,_⟩:=O.look
 refine Calls.call_function_entry kind_len plain_len entry_len (args_len1 _) ?_
 unfold Builtin.«len»
 refine wpAny_bind (m:=oneArg "len" _) (wpAny_pure ?_)
 unfold callSpecial?
 refine wpAny_bind (wpAny_bind (wpAny_bind (J.type.here ((looks_findIn I.kIn hs).here ?_))))
 refine wpAny_holding (wpAny_bind ((bind_fn I.kIn _ (beq_iff_eq.mp hf)).here ?_))
 refine wpAny_bind (wpAny_mono (sI F hr hb hx I (us:=[.ref p]) (vs:=[.ref p]) (.cons ru .nil) q) (fun r s1 ⟨z,H1,I1,rz,n,en,hn,q1⟩=>?_) fun _ _ e=>e)
 subst en
 obtain ⟨tk,rfl⟩:=(show ∃ tk,r=Value.int n tk from rz)
 refine wpAny_pure ?_
 refine wpAny_bind (wpAny_holding ?_)
 refine wpAny_pure (wpAny_bind (wpAny_letGo ?_))
 refine (show wpAny _ _ (if (n:Int) < 0 then _ else _) _ _ _ from ?_)
 rw [if_neg (by omega)]
 refine (show wpAny _ _ (if (n:Int) ≥ 2 ^ 63 then _ else _) _ _ _ from ?_)
 rw [if_neg (by omega)]
 exact wpAny_bind (wpAny_mkInt (wpAny_pure ⟨_,rfl,.int n,H1,I1.tok _,⟨_,rfl⟩,q1⟩))
end
end L2
namespace K04
open PySem L2 PySem.W Nm Srt
abbrev AW:Stmt:=bD (bt 25) 2
abbrev A2:Stmt:=bD (bt 25) 7
def yF (C:Addr):Sp:=fun vs H Q _=>∃ (s dx fl D:Addr)(zs:List V),vs=[.ref s]∧H s=some (.ins C dx (qk fl D))∧H D=some (.lst zs)∧Q (.int zs.length) H
def uJ (ts:List Tm):Nat:=(ts.getLast?.map fun t=>t.1.length).getD 0
def wW (C:Addr):Sp:=fun vs H Q _=>∃ (s dx fl D:Addr)(zs:List V)(ts:List Tm),vs=[.ref s]∧H s=some (.ins C dx (qk fl D))∧H D=some (.lst zs)∧bh H zs ts∧Q (.int (uJ ts)) H
theorem B8:FnScope ["self"] ["self"] (ar AW):=eO (by decide +kernel)
theorem A8:FnScope ["self"] ["self"] (ar A2):=eO (by decide +kernel)
theorem xa {zs:List V}(h:zs.length - 1 < zs.length):qa zs (-1)=some zs[zs.length - 1]:=by
 unfold qa vL
 rw [if_neg (by decide),if_pos (by omega)]
 show zs[((-1:Int) + (zs.length:Int)).toNat]?=_
 rw [show ((-1:Int) + (zs.length:Int)).toNat=zs.length - 1 from by omega,List.getElem?_eq_getElem h]
variable {P:Program}{w:World}{K:PySem.W.Frag}{mg:Str->Option Value}{base:Heap}
theorem yR {f C:Addr}{fd:FuncData}(F:Fun K "__len__" "Sum.__len__" AW f fd)(c:SumK K mg C)(m_len:mg "len"=none):FnOk P w K mg base (bz P w) 1 f fd ["self"] (yF C):=by
 refine F.okN B8 (fun vs H Q E h=>?_) (fun cdv A outer s H vs Q E hr h=>?_)
 ·obtain ⟨s,dx,fl,D,zs,rfl,_⟩:=h
  rfl
 ·obtain ⟨s0,dx,fl,D,zs,rfl,hs,hD,q⟩:=h
  refine ⟨_,av (aD (az a9 (by rfl) m_len PySem.boot_len (@aj _ _ _ _ _ (dA (pv 0) rfl) ae rfl))),?_⟩
  exact ⟨_,rfl,s0,C,dx,_,_,rfl,hs,c.cl,c.nT,rfl,D,zs,rfl,.inl (br.of hD),q⟩
theorem yW {f C:Addr}{fd:FuncData}(F:Fun K "degree" "Sum.degree" A2 f fd)(c:SumK K mg C)(m_len:mg "len"=none):FnOk P w K mg base (bz P w) 1 f fd ["self"] (wW C):=by
 refine F.okN A8 (fun vs H Q E h=>?_) (fun cdv A outer s H vs Q E hr h=>?_)
 ·obtain ⟨s,dx,fl,D,zs,ts,rfl,_⟩:=h
  rfl
 ·obtain ⟨s0,dx,fl,D,zs,ts,rfl,hs,hD,ht,q⟩:=h
  refine ⟨_,av (aD (xn (pN (dA (pv 0) rfl) (fun _=>rfl)) (az a9 (by rfl) m_len PySem.boot_len (@aj _ _ _ _ _ (@aQ _ _ _ _ _ _ _ aY (@aQ _ _ _ _ _ _ _ bA (dA (pv 0) rfl) (tK nt ai) (fun _ _=>rfl)) ai (fun _ _=>rfl)) ae rfl)) ai)),?_⟩
  have el:zs.length=ts.length:=ht.length
  refine ⟨_,rfl,s0,C,dx,_,_,rfl,hs,c.cl,c.nT,rfl,!zs.isEmpty,.inl ⟨_,br.of hD,rfl⟩,?_⟩
  cases hb:zs.isEmpty with
  | true =>
    have e0:ts=[]:=by
     cases zs with
     | nil=>exact List.length_eq_zero_iff.mp el.symm
     | cons _ _=>cases hb
    subst e0
    exact cf q
  | false =>
    have hl:zs.length - 1 < zs.length:=by
     cases zs with
     | nil=>cases hb
     | cons _ _=>exact Nat.lt_succ_self _
    obtain ⟨t,et,tr⟩:=b9 ht (List.getElem?_eq_getElem hl)
    have ed:uJ ts=t.1.length:=by
     unfold uJ
     rw [List.getLast?_eq_getElem?,← el,et]
     rfl
    rw [ed] at q
    obtain ⟨a,pr,nu,ez,ha,hpr,hnu⟩:=tr
    refine bV ⟨_,rfl,s0,C,dx,_,_,rfl,hs,c.cl,c.nT,rfl,_,rfl,D,zs,-1,zs[zs.length - 1],rfl,rfl,br.of hD,xa hl,?_⟩
    rw [ez]
    refine ⟨a,_,0,_,rfl,rfl,bf.of ha,rfl,pr,_,rfl,.inr (bf.of hpr),?_⟩
    rw [List.length_map]
    exact q
abbrev AZ:Stmt:=(bt 39)
def spLIsN:Sp:=fun vs H Q _=>∃ (p:Int)(x:V)(o:Option (V × V)),vs=[.int p,x]∧FP p∧TX H x o∧(∀ t b,o=some (.int t,.int b)->B 9000 t∧B 9000 b)∧∀ H',aA H H'->Q (.bl (gf p o)) H'
theorem Bu:FnScope ["_law_prime_here","_law_thing"] ["_law_prime_here","_law_thing"] (ar AZ):=eO (by decide +kernel)
theorem y4 {f fw fl:Addr}{fd fdw fdl:FuncData}(F:Fun K "_law_is_number" "_law_is_number" AZ f fd)(m_isi:mg "isinstance"=none)(m_tuple:mg "tuple"=none)(m_len:mg "len"=none)
 (FW:FnOk P w K mg base (bz P w) 1 fw fdw ["_law_thing"] spWhole)(bW:L2.aH K fdw ["_law_thing"] [])(mW:mg "_law_whole"=some (.ref fw))(kW:keepIn K (.ref fw)=true)
 (FL:FnOk P w K mg base (bz P w) 1 fl fdl ["_law_top","_law_bottom"] spLLow)(bL:L2.aH K fdl ["_law_top","_law_bottom"] [])(mL:mg "_law_lowest"=some (.ref fl))(kL:keepIn K (.ref fl)=true):
 FnOk P w K mg base (bz P w) 2 f fd ["_law_prime_here","_law_thing"] spLIsN:=by
 refine F.okN Bu (fun vs H Q E h=>?_) (fun cdv A outer s H vs Q E hr h=>?_)
 ·obtain ⟨p,x,o,rfl,_⟩:=h
  rfl
 ·obtain ⟨p,x,o,rfl,hp,tx,hB,q⟩:=h
  refine ⟨_,ao (bJ (PW.pt (cH (cc (cb (az bw (by rfl) m_isi (by rfl) (@aj _ _ _ _ _ (pv 1) (@aj _ _ _ _ _ (cA (by rfl) m_tuple (by rfl) (show aE (.ty "tuple") (.type "tuple") from rfl)) ae rfl) rfl))))
   (cH (@aJ _ _ _ _ _ _ _ _ dI (az a9 (by rfl) m_len PySem.boot_len (@aj _ _ _ _ _ (pv 1) ae rfl)) ai (aI _))
   (cH (cc (cb (aB FW hr (by rfl) mW kW bW .nil ah (@aj _ _ _ _ _ (@aQ _ _ _ _ _ _ _ aY (pv 1) ai (fun _ _=>rfl)) ae rfl))))
   (de (cc (cb (aB FW hr (by rfl) mW kW bW .nil ah (@aj _ _ _ _ _ (@aQ _ _ _ _ _ _ _ aY (pv 1) ai (fun _ _=>rfl)) ae rfl))))))))) (av (aD c7)) aO)
   (ao (bJ (@aJ _ _ _ _ _ _ _ _ lX (pv 0) ai (aI _)) (av (aD (cW (@cw _ _ _ _ _ _ _ _ dZ (@aQ _ _ _ _ _ _ _ aY (pv 1) ai (fun _ _=>rfl)) ai (aI _)) (dO (jC tV iQ ai (@aQ _ _ _ _ _ _ _ aY (pv 1) ai (fun _ _=>rfl)) (pv 0)))))) aO)
   (av (aD (cW (@cw _ _ _ _ _ _ _ _ lX (@aQ _ _ _ _ _ _ _ aY (pv 1) ai (fun _ _=>rfl)) ai (aI _)) (dO (@cw _ _ _ _ _ _ _ _ (xK hr) (aB FL hr (by rfl) mL kL bL .nil ah (@aj _ _ _ _ _ (@aQ _ _ _ _ _ _ _ aY (pv 1) ai (fun _ _=>rfl)) (@aj _ _ _ _ _ (@aQ _ _ _ _ _ _ _ aY (pv 1) ai (fun _ _=>rfl)) ae rfl) rfl)) (pv 1) (aI _))))))),?_⟩
  cases tx with
  | @no x T th ne =>
    refine ⟨_,rfl,x,.ty "tuple",_,_,_,rfl,rfl,th.ty,th.isTup,_,rfl,?_⟩
    rw [decide_eq_false ne]
    exact bV (bV (q _ (aA.refl _)))
  | @odd a xs ha hl =>
    refine ⟨_,rfl,.ref a,.ty "tuple",_,_,_,rfl,rfl,.of (.tup ha),rfl,_,rfl,cf ?_⟩
    refine ⟨_,rfl,a,_,rfl,.inr (bf.of ha),rfl,_,rfl,?_⟩
    refine bQ (fun _=>bV (q _ (aA.refl _))) (fun h=>absurd (by simp; omega) h)
  | @two a y z Ty Tz ha hy hz =>
    refine ⟨_,rfl,.ref a,.ty "tuple",_,_,_,rfl,rfl,.of (.tup ha),rfl,_,rfl,cf ?_⟩
    refine ⟨_,rfl,a,_,rfl,.inr (bf.of ha),rfl,_,rfl,?_⟩
    refine bQ (fun h=>absurd h (by simp)) (fun _=>?_)
    refine ⟨_,rfl,a,_,0,y,rfl,rfl,bf.of ha,rfl,y,Ty,rfl,hy,_,rfl,?_⟩
    cases e1:cp y with
    | false =>
      have z1:gf p (some (y,z))=false:=by cases y <;> first | rfl | cases e1
      rw [z1] at q
      exact bV (bV (q _ (aA.refl _)))
    | true =>
      refine cf ⟨_,rfl,a,_,1,z,rfl,rfl,bf.of ha,rfl,z,Tz,rfl,hz,_,rfl,?_⟩
      cases e2:cp z with
      | false =>
        have z1:gf p (some (y,z))=false:=by cases y <;> cases z <;> first | rfl | cases e2
        rw [z1] at q
        exact bV (q _ (aA.refl _))
      | true =>
        have z1:∃ t,y = .int t:=by cases y <;> first | exact ⟨_,rfl⟩ | cases e1
        have z2:∃ b,z = .int b:=by cases z <;> first | exact ⟨_,rfl⟩ | cases e2
        obtain ⟨t,rfl⟩:=z1
        obtain ⟨b,rfl⟩:=z2
        refine cf ?_
        refine ⟨_,rfl,_,_,rfl,rfl,_,rfl,?_⟩
        refine bQ (fun h=>?_) (fun h=>?_)
        ·have hp0:p≠0:=by
          have:0 < p:=by simpa using h
          omega
         have z1:gf p (some (.int t,.int b))=(decide (b=1)&&(decide (0≤t)&&decide (t < p))):=by simp [gf,hp0]
         rw [z1] at q
         refine ⟨_,rfl,a,_,1,_,rfl,rfl,bf.of ha,rfl,rfl,_,rfl,?_⟩
         refine bQ (fun h1=>?_) (fun h1=>?_)
         ·have h1':decide (b=1)=true:=by simpa using h1
          rw [h1',Bool.true_and] at q
          refine ⟨_,rfl,a,_,0,_,rfl,rfl,bf.of ha,rfl,_,_,rfl,rfl,_,rfl,?_⟩
          refine bQ (fun h2=>?_) (fun h2=>?_)
          ·refine ⟨_,rfl,_,_,rfl,rfl,?_⟩
           have h2':decide (0≤t)=true:=h2
           rw [h2',Bool.true_and] at q
           exact q _ (aA.refl _)
          ·have h2':decide (0≤t)=false:=by simpa using h2
           rw [h2',Bool.false_and] at q
           exact q _ (aA.refl _)
         ·have h1':decide (b=1)=false:=by simpa using h1
          rw [h1',Bool.false_and] at q
          exact q _ (aA.refl _)
        ·have hp0:p=0:=by
          have h':¬ 0 < p:=by simpa using h
          rcases hp with hp | hp
          ·exact hp
          ·have:∀ q∈primes,0 < q:=by decide
           exact absurd (this p hp) h'
         have z1:gf p (some (.int t,.int b))=(decide (1≤b)&&decide (Int.gcd t b=1)):=by simp [gf,hp0]
         rw [z1] at q
         refine ⟨_,rfl,a,_,1,_,rfl,rfl,bf.of ha,rfl,_,_,rfl,rfl,_,rfl,?_⟩
         refine bQ (fun h1=>?_) (fun h1=>?_)
         ·have hb0:0 < b:=by simpa using h1
          obtain ⟨B1,B2⟩:=hB t b rfl
          refine ⟨_,rfl,a,_,0,_,rfl,rfl,bf.of ha,rfl,_,rfl,a,_,1,_,rfl,rfl,bf.of ha,rfl,t,b,rfl,by omega,B2,B1,fun H' c sH hc=>?_⟩
          refine ⟨_,rfl,.tup [.int (cR t b),.int (cg t b)],.tup [.int t,.int b],?_,?_,(by simp [i4,dC]),?_⟩
          ·exact ⟨c,_,rfl,bf.of hc,_,_,rfl,rfl,_,_,rfl,rfl,rfl⟩
          ·exact ⟨a,_,rfl,bf.of (sH _ _ ha),_,_,rfl,rfl,_,_,rfl,rfl,rfl⟩
          ·have e3:(df (.tup [.int (cR t b),.int (cg t b)]) (.tup [.int t,.int b]) != false)=decide (Int.gcd t b=1):=by
            have d1:df (.tup [.int (cR t b),.int (cg t b)]) (.tup [.int t,.int b])=(cR t b == t&&(cg t b == b&&true)):=rfl
            rw [d1]
            by_cases g:Int.gcd t b=1
            ·obtain ⟨g1,g2⟩:=kE hb0 g
             simp [g1,g2,g]
            ·have:¬ (cR t b=t∧cg t b=b):=fun z=>g (by have:=nQ (t:=t) (b:=b) (by omega); rw [z.1,z.2] at this; exact this)
             by_cases g1:cR t b=t
             ·have g2:cg t b≠b:=fun z=>this ⟨g1,z⟩
              simp [g1,g2,g]
             ·simp [g1,g]
           rw [e3]
           have h1':decide (1≤b)=true:=decide_eq_true (by omega)
           rw [h1',Bool.true_and] at q
           exact q _ sH
         ·have h1':decide (1≤b)=false:=by
           have h':¬ 0 < b:=by simpa using h1
           exact decide_eq_false (by omega)
          rw [h1',Bool.false_and] at q
          exact q _ (aA.refl _)
end K04
namespace St
open PySem
abbrev T:=SetTable
def Up (xs:Array Nat):Prop:=∀ i j,i < j->j < xs.size->xs.getD i 0 < xs.getD j 0
def DP (xs:Array Nat)(j r:Nat):Prop:=r≤xs.size∧(∀ k,k < r->xs.getD k 0 < j)∧∀ k,r≤k->k < xs.size->j≤xs.getD k 0
theorem vZ {xs:Array Nat}{k d e:Nat}(h:k < xs.size):xs.getD k d=xs.getD k e:=by
 simp [Array.getD,h]
theorem Bb {xs:Array Nat}{j:Nat}(u:Up xs):∀ (f lo hi:Nat),lo≤hi->hi≤xs.size->hi - lo≤f->(∀ k,k < lo->xs.getD k 0 < j)->(∀ k,hi≤k->k < xs.size->j≤xs.getD k 0) →
 DP xs j (SetTable.below.go xs j f lo hi):=by
 intro f
 induction f with
 | zero =>
   intro lo hi h1 h2 h3 h4 h5
   have e:lo=hi:=by omega
   subst e
   exact ⟨h2,h4,h5⟩
 | succ f ih =>
   intro lo hi h1 h2 h3 h4 h5
   unfold SetTable.below.go
   by_cases h:lo < hi
   ·rw [if_pos h]
    have hm:(lo + hi) / 2 < xs.size:=by omega
    have e:xs.getD ((lo + hi) / 2) j=xs.getD ((lo + hi) / 2) 0:=vZ hm
    dsimp only
    rw [e]
    by_cases g:xs.getD ((lo + hi) / 2) 0 < j
    ·rw [if_pos g]
     refine ih _ _ (by omega) h2 (by omega) (fun k hk=>?_) h5
     rcases Nat.lt_or_ge k ((lo + hi) / 2) with q | q
     ·exact Nat.lt_trans (u _ _ q hm) g
     ·have:k=(lo + hi) / 2:=by omega
      rw [this]; exact g
    ·rw [if_neg g]
     refine ih _ _ (by omega) (by omega) (by omega) h4 (fun k hk hk2=>?_)
     rcases Nat.lt_or_ge ((lo + hi) / 2) k with q | q
     ·exact Nat.le_trans (Nat.not_lt.mp g) (Nat.le_of_lt (u _ _ q hk2))
     ·have:k=(lo + hi) / 2:=by omega
      rw [this]; exact Nat.not_lt.mp g
   ·rw [if_neg h]
    have e:lo=hi:=by omega
    subst e
    exact ⟨h2,h4,h5⟩
theorem d6 {xs:Array Nat}(u:Up xs)(j:Nat):DP xs j (SetTable.below xs j):=
 Bb u _ _ _ (Nat.zero_le _) (Nat.le_refl _) (by omega) (fun k hk=>absurd hk (Nat.not_lt_zero _)) (fun k h1 h2=>absurd h1 (by omega))
theorem qB {xs:Array Nat}{j r q:Nat}(a:DP xs j r)(b:DP xs j q):r=q:=by
 rcases Nat.lt_trichotomy r q with h | h | h
 ·have h1:=b.2.1 r h
  have h2:=a.2.2 r (Nat.le_refl _) (Nat.lt_of_lt_of_le h b.1)
  omega
 ·exact h
 ·have h1:=a.2.1 q h
  have h2:=b.2.2 q (Nat.le_refl _) (Nat.lt_of_lt_of_le h a.1)
  omega
theorem rA {xs:Array Nat}(u:Up xs):SetTable.below xs 0=0 :=
 qB (d6 u 0) ⟨Nat.zero_le _,fun k hk=>absurd hk (Nat.not_lt_zero _),fun _ _ _=>Nat.zero_le _⟩
theorem qE {xs:Array Nat}(u:Up xs){i:Nat}(h:i < xs.size):SetTable.below xs (xs.getD i 0 + 1)=i + 1:=by
 refine qB (d6 u _) ⟨h,fun k hk=>?_,fun k h1 h2=>?_⟩
 ·rcases Nat.lt_or_ge k i with q | q
  ·exact Nat.lt_succ_of_lt (u _ _ q h)
  ·have:k=i:=by omega
   rw [this]; exact Nat.lt_succ_self _
 ·exact u _ _ (by omega) h2
theorem qg {xs:Array Nat}{i:Nat}(h:i < xs.size):xs[i]?=some (xs.getD i 0):=by
 simp [Array.getD,h]
def vO (xs:Array Nat)(j:Nat):Prop:=∃ k,k < xs.size∧xs.getD k 0=j
theorem my {t:T}(u:Up t.place){j:Nat}(h:vO t.place j):∃ i,t.slot j = .live i:=by
 obtain ⟨k,hk,rfl⟩:=h
 have hb:SetTable.below t.place (t.place.getD k 0)=k:=by
  refine qB (d6 u _) ⟨Nat.le_of_lt hk,fun q hq=>u _ _ hq hk,fun q h1 h2=>?_⟩
  rcases Nat.lt_or_ge k q with g | g
  ·exact Nat.le_of_lt (u _ _ g h2)
  ·have:q=k:=by omega
   rw [this]; exact Nat.le_refl _
 refine ⟨k,?_⟩
 unfold SetTable.slot
 dsimp only
 rw [hb,qg hk]
 simp
theorem ia {t:T}(u:Up t.place)(d:t.dummies = #[]){j:Nat}(h:¬ vO t.place j):t.slot j = .empty:=by
 unfold SetTable.slot
 dsimp only
 have e:(t.place[SetTable.below t.place j]? == some j)=false:=by
  rcases Nat.lt_or_ge (SetTable.below t.place j) t.place.size with g | g
  ·rw [qg g]
   have:t.place.getD (SetTable.below t.place j) 0≠j:=fun q=>h ⟨_,g,q⟩
   simpa using this
  ·rw [Array.getElem?_eq_none g]; rfl
 have e2:SetTable.has t.dummies j=false:=by rw [d]; simp [SetTable.has]
 rw [e,e2]
 rfl
theorem dS {α:Type}(xs:Array α)(p:Nat)(x:α)(h:p≤xs.size):(SetTable.insertAt xs p x).size=xs.size + 1:=by
 rw [← Array.length_toList,SetTable.toList_insertAt]
 simp
 omega
theorem f9 {xs:Array Nat}{p x k:Nat}(h:p≤xs.size):(SetTable.insertAt xs p x).getD k 0=if k < p then xs.getD k 0 else if k=p then x else xs.getD (k - 1) 0:=by
 have e:∀ (ys:Array Nat)(k:Nat),ys.getD k 0=(ys.toList[k]?).getD 0:=by
  intro ys k
  rw [Array.getElem?_toList,Array.getD_eq_getD_getElem?]
 rw [e,e,e,SetTable.toList_insertAt]
 have hl:(xs.toList.take p).length=p:=by simp [h]
 by_cases g:k < p
 ·rw [if_pos g,List.getElem?_append_left (by omega),List.getElem?_take_of_lt g]
 ·rw [if_neg g,List.getElem?_append_right (by omega),hl]
  by_cases g2:k=p
  ·subst g2; simp
  ·rw [if_neg g2]
   obtain ⟨q,hq⟩:∃ q,k=p + (q + 1):=⟨k - p - 1,by omega⟩
   subst hq
   rw [show p + (q + 1) - p=q + 1 from by omega,List.getElem?_cons_succ,List.getElem?_drop,show p + (q + 1) - 1=p + q from by omega]
theorem um {xs:Array Nat}(u:Up xs){j:Nat}(h:¬ vO xs j):Up (SetTable.insertAt xs (SetTable.below xs j) j):=by
 obtain ⟨c1,c2,c3⟩:=d6 u j
 generalize SetTable.below xs j=p at c1 c2 c3
 intro a b hab hb
 rw [dS _ _ _ c1] at hb
 rw [f9 c1,f9 c1]
 have gt:∀ k,p≤k->k < xs.size->j < xs.getD k 0:=fun k h1 h2=>Nat.lt_of_le_of_ne (c3 k h1 h2) fun e=>h ⟨k,h2,e.symm⟩
 by_cases ha:a < p
 ·rw [if_pos ha]
  by_cases hb1:b < p
  ·rw [if_pos hb1]; exact u _ _ hab (by omega)
  ·rw [if_neg hb1]
   by_cases hb2:b=p
   ·rw [if_pos hb2]; exact c2 _ ha
   ·rw [if_neg hb2]; exact Nat.lt_trans (c2 _ ha) (gt _ (by omega) (by omega))
 ·rw [if_neg ha]
  by_cases ha2:a=p
  ·rw [if_pos ha2,if_neg (by omega),if_neg (by omega)]; exact gt _ (by omega) (by omega)
  ·rw [if_neg ha2,if_neg (by omega),if_neg (by omega)]; exact u _ _ (by omega) (by omega)
def it (m:Nat):Nat->Nat->Nat
 | 0,x=>x
 | n + 1,x=>it m n ((x * 5 + 1) % m)
theorem qw (m a:Nat):∀ b x,it m (b + a) x=it m a (it m b x):=by
 intro b
 induction b with
 | zero=>intro x; rw [Nat.zero_add]; rfl
 | succ b ih=>intro x; rw [Nat.succ_add]; exact ih _
def round (m:Nat):Bool:=it m m 0 == 0&&(List.range m).all fun y=>(List.range m).any fun n=>it m n 0 == y
theorem C7 {m:Nat}(h:round m=true){x y:Nat}(hx:x < m)(hy:y < m):∃ n,n < m∧it m n x=y:=by
 obtain ⟨h1,h2⟩:=Bool.and_eq_true_iff.mp h
 have h0:it m m 0=0:=by simpa using h1
 have on:∀ y,y < m->∃ n,n < m∧it m n 0=y:=fun y hy=>by
  have h3:=List.all_eq_true.mp h2 y (List.mem_range.mpr hy)
  obtain ⟨n,hn,e⟩:=List.any_eq_true.mp h3
  exact ⟨n,List.mem_range.mp hn,by simpa using e⟩
 obtain ⟨a,ha,rfl⟩:=on x hx
 obtain ⟨b,hb,rfl⟩:=on y hy
 rcases Nat.lt_or_ge b a with g | g
 ·refine ⟨(m - a) + b,by omega,?_⟩
  have e:it m (m - a) (it m a 0)=0:=by rw [← qw,show a + (m - a)=m from by omega,h0]
  rw [qw,e]
 ·exact ⟨b - a,by omega,by rw [← qw,show a + (b - a)=b from by omega]⟩
theorem Be:round 8=true:=by decide +kernel
theorem zv:round 32=true:=by decide +kernel
theorem xT:round 128=true:=by decide +kernel
def j9 (k:Nat):Prop:=k=7∨k=31∨k=127
theorem j9.round {k:Nat}(h:j9 k):St.round (k + 1)=true:=by
 rcases h with rfl | rfl | rfl
 ·exact Be
 ·exact zv
 ·exact xT
def lp (mask:Nat):Nat->Nat->Nat->Nat × Nat
 | 0,i,p=>(i,p)
 | n + 1,i,p=>lp mask n (SetTable.leap mask i p).1 (SetTable.leap mask i p).2
theorem BP (mask a:Nat):∀ b i p,lp mask (b + a) i p=lp mask a (lp mask b i p).1 (lp mask b i p).2:=by
 intro b
 induction b with
 | zero=>intro i p; rw [Nat.zero_add]; rfl
 | succ b ih=>intro i p; rw [Nat.succ_add]; exact ih _ _
theorem EE (mask:Nat):∀ n i p,(lp mask n i p).2=p / 32 ^ n:=by
 intro n
 induction n with
 | zero=>intro i p; show p=_; rw [Nat.pow_zero,Nat.div_one]
 | succ n ih =>
   intro i p
   show (lp mask n _ _).2=_
   rw [ih]
   show p / 32 / 32 ^ n=_
   rw [Nat.div_div_eq_div_mul,Nat.pow_succ,Nat.mul_comm]
theorem CV (mask:Nat):∀ n i p,i < mask + 1->(lp mask n i p).1 < mask + 1:=by
 intro n
 induction n with
 | zero=>intro i p h; exact h
 | succ n ih=>intro i p h; exact ih _ _ (Nat.mod_lt _ (Nat.succ_pos _))
theorem Ds (mask:Nat):∀ n i,(lp mask n i 0).1=it (mask + 1) n i:=by
 intro n
 induction n with
 | zero=>intro i; rfl
 | succ n ih=>intro i; exact ih _
theorem AR {mask:Nat}(hm:j9 mask){i p y:Nat}(hi:i < mask + 1)(hp:p < 2 ^ 64)(hy:y < mask + 1):∃ n,n < mask + 15∧(lp mask n i p).1=y:=by
 have e:(lp mask 13 i p).2=0:=by
  rw [EE]; exact Nat.div_eq_of_lt (Nat.lt_trans hp (by decide))
 obtain ⟨n,hn,h⟩:=C7 hm.round (CV mask 13 i p hi) hy
 refine ⟨13 + n,by omega,?_⟩
 rw [BP,e,Ds,h]
theorem tj (h:Int):SetTable.bits h < 2 ^ 64:=by
 unfold SetTable.bits
 have h1:0≤h % (2 ^ 64:Int):=Int.emod_nonneg _ (by decide)
 have h2:h % (2 ^ 64:Int) < 2 ^ 64:=Int.emod_lt_of_pos _ (by decide)
 omega
theorem wz {mask i:Nat}(h:i < mask + 1):SetTable.runEnd mask i < mask + 1∧i≤SetTable.runEnd mask i∧SetTable.runEnd mask i≤i + 9:=by
 unfold SetTable.runEnd
 split <;> omega
theorem zt {mask:Nat}{owner:Array (Option Nat)}:∀ (n f i p y:Nat),i < mask + 1->n < f->(lp mask n i p).1=y->owner.getD y (some 0)=none →
 ∃ j,SetTable.layClean.free mask owner f i p=some j∧owner.getD j (some 0)=none:=by
 intro n
 induction n with
 | zero =>
   intro f i p y hi hf hy ho
   obtain ⟨f,rfl⟩:∃ g,f=g + 1:=⟨f - 1,by omega⟩
   cases (show i=y from hy)
   unfold SetTable.layClean.free
   cases e:(List.range (SetTable.runEnd mask i + 1 - i)).find? fun k=>(owner.getD (i + k) (some 0)).isNone with
   | some k =>
     have:=List.find?_some e
     exact ⟨i + k,rfl,by simpa using this⟩
   | none =>
     have h0:=List.find?_eq_none.mp e 0 (List.mem_range.mpr (by have:=wz hi; omega))
     rw [Nat.add_zero,ho] at h0
     exact absurd rfl h0
 | succ n ih =>
   intro f i p y hi hf hy ho
   obtain ⟨f,rfl⟩:∃ g,f=g + 1:=⟨f - 1,by omega⟩
   unfold SetTable.layClean.free
   cases e:(List.range (SetTable.runEnd mask i + 1 - i)).find? fun k=>(owner.getD (i + k) (some 0)).isNone with
   | some k =>
     have:=List.find?_some e
     exact ⟨i + k,rfl,by simpa using this⟩
   | none=>exact ih f _ _ y (Nat.mod_lt _ (Nat.succ_pos _)) (by omega) hy ho
theorem ue {t:T}{h:Int}(u:Up t.place)(d:t.dummies = #[]){F:Nat}:∀ (k f:Nat)(p:SetTable.Probe),p.more=k->p.dummy=none->k + 1 + F=f →
 (∀ q:SetTable.Probe,q.j=q.i->q.more=SetTable.runEnd t.mask q.i - q.i->q.dummy=none->(q.i,q.perturb)=SetTable.leap t.mask p.i p.perturb->∃ j,SetTable.probe.go t (fun _=>h + 1) h F q=some (.empty j none)∧¬ vO t.place j) →
 ∃ j,SetTable.probe.go t (fun _=>h + 1) h f p=some (.empty j none)∧¬ vO t.place j:=by
 intro k
 induction k with
 | zero =>
   intro f p hk hd hf hn
   obtain ⟨f,rfl⟩:∃ g,f=g + 1:=⟨f - 1,by omega⟩
   have hF:F=f:=by omega
   subst hF
   unfold SetTable.probe.go
   by_cases g:vO t.place p.j
   ·obtain ⟨i,e⟩:=my u g
    rw [e]
    dsimp only
    rw [if_neg (by simp; omega)]
    refine hn _ ?_ ?_ ?_ ?_ <;> unfold SetTable.advance <;> rw [if_neg (by omega)]
    ·exact hd
   ·rw [ia u d g]
    exact ⟨_,by rw [hd],g⟩
 | succ k ih =>
   intro f p hk hd hf hn
   obtain ⟨f,rfl⟩:∃ g,f=g + 1:=⟨f - 1,by omega⟩
   unfold SetTable.probe.go
   by_cases g:vO t.place p.j
   ·obtain ⟨i,e⟩:=my u g
    rw [e]
    dsimp only
    rw [if_neg (by simp; omega)]
    have ea:t.advance p={ p with j:=p.j + 1,more:=p.more - 1 }:=by unfold SetTable.advance; rw [if_pos (by omega)]
    rw [ea]
    exact ih f _ (by show p.more - 1=k; omega) hd (by omega) hn
   ·rw [ia u d g]
    exact ⟨_,by rw [hd],g⟩
theorem xB {t:T}{h:Int}(u:Up t.place)(d:t.dummies = #[]):∀ (n f:Nat)(p:SetTable.Probe)(y:Nat),p.i < t.mask + 1->p.j=p.i->p.more=SetTable.runEnd t.mask p.i - p.i->p.dummy=none →
 10 * n < f->(lp t.mask n p.i p.perturb).1=y->¬ vO t.place y->∃ j,SetTable.probe.go t (fun _=>h + 1) h f p=some (.empty j none)∧¬ vO t.place j:=by
 intro n
 induction n with
 | zero =>
   intro f p y hi hj hm hd hf hy hn
   obtain ⟨f,rfl⟩:∃ g,f=g + 1:=⟨f - 1,by omega⟩
   have e:p.j=y:=hj.trans hy
   unfold SetTable.probe.go
   rw [e,ia u d hn]
   exact ⟨_,by rw [hd],hn⟩
 | succ n ih =>
   intro f p y hi hj hm hd hf hy hn
   have hr:=wz hi
   refine ue u d (F:=f - (p.more + 1)) p.more f p rfl hd (by omega) fun q q1 q2 q3 q4=>?_
   have e1:q.i=(SetTable.leap t.mask p.i p.perturb).1:=congrArg Prod.fst q4
   have e2:q.perturb=(SetTable.leap t.mask p.i p.perturb).2:=congrArg Prod.snd q4
   refine ih _ q y (by rw [e1]; exact Nat.mod_lt _ (Nat.succ_pos _)) q1 q2 q3 (by omega) ?_ hn
   rw [e1,e2]; exact hy
theorem BQ {xs:Array Nat}(u:Up xs):∀ m,(∀ y,y < m + 1->vO xs y)->∃ k,k < xs.size∧xs.getD k 0=m∧m≤k:=by
 intro m
 induction m with
 | zero=>intro h; obtain ⟨k,hk,e⟩:=h 0 (by omega); exact ⟨k,hk,e,Nat.zero_le _⟩
 | succ m ih =>
   intro h
   obtain ⟨k,hk,e,hl⟩:=ih fun y hy=>h y (by omega)
   obtain ⟨q,hq,e2⟩:=h (m + 1) (by omega)
   refine ⟨q,hq,e2,?_⟩
   rcases Nat.lt_trichotomy k q with g | g | g
   ·omega
   ·subst g; omega
   ·have:=u _ _ g hk; omega
theorem spare {xs:Array Nat}(u:Up xs){m:Nat}(h:xs.size < m + 1):∃ y,y < m + 1∧¬ vO xs y:=by
 refine Classical.byContradiction fun n=>?_
 obtain ⟨k,hk,_,hl⟩:=BQ u m fun y hy=>Classical.byContradiction fun g=>n ⟨y,hy,g⟩
 omega
theorem vg {t:T}(hm:j9 t.mask)(u:Up t.place)(d:t.dummies = #[])(hs:t.place.size < t.mask + 1)(h:Int):∃ j,t.freeSlot h=some (j,false)∧¬ vO t.place j:=by
 obtain ⟨y,hy,hn⟩:=spare u hs
 have hi:SetTable.bits h % (t.mask + 1) < t.mask + 1:=Nat.mod_lt _ (Nat.succ_pos _)
 obtain ⟨n,hl,e⟩:=AR hm hi (tj h) hy
 obtain ⟨j,e2,hj⟩:=xB (h:=h) u d n (10 * SetTable.turns t.mask) (t.probeStart h) y hi rfl rfl rfl (by unfold SetTable.turns; omega) e hn
 refine ⟨j,?_,hj⟩
 unfold SetTable.freeSlot SetTable.probe
 rw [e2]
 rfl
def Ac (owner:Array (Option Nat))(m:Nat):List Nat:=(List.range m).filterMap fun j=>owner.getD j none
structure Laid (owner:Array (Option Nat))(m k:Nat):Prop where
 size:owner.size=m
 all:(Ac owner m).Perm (List.range k)
theorem vc {owner:Array (Option Nat)}{j:Nat}(h:owner.getD j (some 0)=none):j < owner.size∧owner.getD j none=none:=by
 rcases Nat.lt_or_ge j owner.size with g | g
 ·refine ⟨g,?_⟩
  rw [← h]; simp [Array.getD,g]
 ·simp [Array.getD,Nat.not_lt.mpr g] at h
theorem p5 {α β:Type}{f:α->Option β}:∀ {l:List α},(∀ x,x∈l->f x≠none)->(l.filterMap f).length=l.length
 | [],_=>rfl
 | x :: l,h=>by
   obtain ⟨y,e⟩:=Option.ne_none_iff_exists'.mp (h x List.mem_cons_self)
   rw [List.filterMap_cons_some e,List.length_cons,List.length_cons,p5 fun z hz=>h z (List.mem_cons_of_mem _ hz)]
theorem Laid.spare {owner:Array (Option Nat)}{m k:Nat}(L:Laid owner m k)(h:k < m):∃ y,y < m∧owner.getD y (some 0)=none:=by
 refine Classical.byContradiction fun n=>?_
 have e:(Ac owner m).length=m:=by
  unfold Ac
  rw [p5,List.length_range]
  intro y hy e
  have hy':=List.mem_range.mp hy
  refine n ⟨y,hy',?_⟩
  rw [← e]; simp [Array.getD,L.size,hy']
 rw [L.all.length_eq,List.length_range] at e
 omega
theorem kc {α β:Type}{f g:α->Option β}:∀ {l:List α},(∀ x,x∈l->f x=g x)->l.filterMap f=l.filterMap g
 | [],_=>rfl
 | x :: l,h=>by
   rw [List.filterMap_cons,List.filterMap_cons,h x List.mem_cons_self,kc fun z hz=>h z (List.mem_cons_of_mem _ hz)]
theorem zA {owner:Array (Option Nat)}{m j k:Nat}(hs:owner.size=m)(hj:j < m)(ho:owner.getD j none=none):(Ac (owner.setIfInBounds j (some k)) m).Perm (k :: Ac owner m):=by
 obtain ⟨a,b,e⟩:=List.append_of_mem (List.mem_range.mpr hj)
 have nd:(a++j :: b).Nodup:=e ▸ List.nodup_range
 have na:∀ x,x∈a->x≠j:=fun x hx q=>by
  rw [List.nodup_append] at nd
  exact nd.2.2 x hx j List.mem_cons_self q
 have nb:∀ x,x∈b->x≠j:=fun x hx q=>by
  rw [List.nodup_append] at nd
  exact (List.nodup_cons.mp nd.2.1).1 (q ▸ hx)
 have ne:∀ x,x≠j->(owner.setIfInBounds j (some k)).getD x none=owner.getD x none:=fun x hx=>by
  rw [Array.getD_eq_getD_getElem?,Array.getD_eq_getD_getElem?,Array.getElem?_setIfInBounds_ne (Ne.symm hx)]
 have ej:(owner.setIfInBounds j (some k)).getD j none=some k:=by
  rw [Array.getD_eq_getD_getElem?,Array.getElem?_setIfInBounds_self_of_lt (by omega)]; rfl
 unfold Ac
 rw [e,List.filterMap_append,List.filterMap_append,List.filterMap_cons,List.filterMap_cons,ej,ho]
 dsimp only
 rw [kc fun x hx=>ne x (na x hx),kc fun x hx=>ne x (nb x hx)]
 exact List.perm_middle
theorem vf {mask:Nat}(hm:j9 mask):∀ (hs:List Int)(owner:Array (Option Nat))(k:Nat),Laid owner (mask + 1) k->k + hs.length < mask + 1 →
 ∃ owner',hs.foldl (fun acc h=>do
   let (owner,k) ← acc
   let j ← SetTable.layClean.free mask owner (SetTable.turns mask) (SetTable.bits h % (mask + 1)) (SetTable.bits h)
   pure (owner.setIfInBounds j (some k),k + 1)) (some (owner,k))=some (owner',k + hs.length)∧Laid owner' (mask + 1) (k + hs.length):=by
 intro hs
 induction hs with
 | nil=>intro owner k L _; exact ⟨owner,rfl,L⟩
 | cons h hs ih =>
   intro owner k L hl
   rw [List.length_cons] at hl
   obtain ⟨y,hy,ho⟩:=L.spare (by omega)
   have hi:SetTable.bits h % (mask + 1) < mask + 1:=Nat.mod_lt _ (Nat.succ_pos _)
   obtain ⟨n,hn,e⟩:=AR hm hi (tj h) hy
   obtain ⟨j,ej,hj⟩:=zt n (SetTable.turns mask) _ _ y hi (by unfold SetTable.turns; omega) e ho
   obtain ⟨j1,j2⟩:=vc hj
   have L':Laid (owner.setIfInBounds j (some k)) (mask + 1) (k + 1):=by
    refine ⟨by rw [Array.size_setIfInBounds]; exact L.size,(zA L.size (by rw [← L.size]; exact j1) j2).trans ?_⟩
    rw [List.range_succ]
    exact (List.Perm.cons k L.all).trans (List.perm_append_singleton k _).symm
   obtain ⟨o',e',l'⟩:=ih _ _ L' (by omega)
   refine ⟨o',?_,by rw [List.length_cons,show k + (hs.length + 1)=k + 1 + hs.length from by omega]; exact l'⟩
   rw [List.foldl_cons,List.length_cons,show k + (hs.length + 1)=k + 1 + hs.length from by omega]
   show List.foldl _ ((SetTable.layClean.free mask owner (SetTable.turns mask) (SetTable.bits h % (mask + 1)) (SetTable.bits h)).bind _) hs=_
   rw [ej]
   exact e'
theorem yq (m:Nat):Ac (Array.replicate m none) m=[]:=by
 unfold Ac
 rw [List.filterMap_eq_nil_iff]
 intro j hj
 have hj':=List.mem_range.mp hj
 simp [Array.getD,hj']
theorem qF {mask:Nat}(hm:j9 mask)(hs:Array Int)(h:hs.size < mask + 1):∃ owner,SetTable.layClean mask hs=some owner∧Laid owner (mask + 1) hs.size:=by
 obtain ⟨o,e,l⟩:=vf hm hs.toList (Array.replicate (mask + 1) none) 0 ⟨Array.size_replicate,by rw [yq]; exact List.Perm.refl _⟩ (by rw [Array.length_toList]; omega)
 rw [Array.length_toList,Nat.zero_add] at e l
 refine ⟨o,?_,l⟩
 unfold SetTable.layClean
 rw [← Array.foldl_toList]
 rw [e]
 rfl
theorem DD {l:List Nat}(h:l.Pairwise (· < ·)):Up l.toArray:=by
 intro i j hij hj
 rw [List.size_toArray] at hj
 have:=List.pairwise_iff_getElem.mp h i j (by omega) hj hij
 rw [show l.toArray.getD i 0=l[i] from by simp [Array.getD,show i < l.length from by omega],show l.toArray.getD j 0=l[j] from by simp [Array.getD,hj]]
 exact this
theorem oM {t:T}{hs:Array Int}{wanted mask:Nat}(em:SetTable.sizeAbove wanted - 1=mask)(hm:j9 mask)(h:hs.size < mask + 1):
 ∃ t' order,t.relaid hs wanted=some (t',order)∧t'.mask=mask∧t'.dummies = #[]∧t'.led=t.led∧t'.plain=t.plain∧Up t'.place∧t'.place.size=hs.size∧order.toList.Perm (List.range hs.size):=by
 obtain ⟨o,e,l⟩:=qF hm hs h
 unfold SetTable.relaid SetTable.laid
 rw [em,e]
 refine ⟨_,_,rfl,rfl,rfl,rfl,rfl,?_,?_,?_⟩
 ·dsimp only
  rw [List.map_filterMap]
  refine DD (List.Pairwise.filterMap _ (fun a a' haa b hb b' hb'=>?_) (List.pairwise_lt_range (n:=mask + 1)))
  cases ea:o.getD a none with
  | none=>rw [ea] at hb; cases hb
  | some x =>
    cases ea':o.getD a' none with
    | none=>rw [ea'] at hb'; cases hb'
    | some x' =>
      rw [ea] at hb; rw [ea'] at hb'
      cases hb; cases hb'
      exact haa
 ·have e1:=l.all.length_eq
  rw [List.length_range] at e1
  dsimp only
  rw [List.size_toArray,List.length_map,← e1]
  unfold Ac
  rw [show (fun j=>o.getD j none)=(fun j=>((o.getD j none).map (j,·)).map Prod.snd) from funext fun j=>by cases o.getD j none <;> rfl,← List.map_filterMap,List.length_map]
 ·dsimp only
  rw [List.map_filterMap]
  have e2:(fun x=>Option.map (fun x=>x.snd) (Option.map (fun x_1=>(x,x_1)) (o.getD x none)))=fun j=>o.getD j none:=funext fun j=>by cases o.getD j none <;> rfl
  rw [e2]
  exact l.all
structure Ok (led:Bool)(n:Nat)(t:T):Prop where
 mask:j9 t.mask
 room:n * 5 < t.mask * 3
 size:t.place.size=n
 up:Up t.place
 dum:t.dummies = #[]
 plain:t.plain=true
 led:t.led=led
theorem Ok.fits {led:Bool}{n:Nat}{t:T}(o:Ok led n t):t.fits n=true:=by
 have h1:=o.room
 have h2:=o.size
 simp only [SetTable.fits,SetTable.fill,Bool.and_eq_true,beq_iff_eq,decide_eq_true_eq,o.dum]
 refine ⟨h2,?_⟩
 rw [h2,Array.size_empty]
 omega
theorem Ok.fresh (led:Bool):Ok led 0 (.fresh 0 0 led):=
 ⟨.inl rfl,by show 0 * 5 < 7 * 3; decide,rfl,fun i j _ h=>absurd h (Nat.not_lt_zero _),rfl,rfl,rfl⟩
theorem Aa {led:Bool}{n:Nat}{t:T}(o:Ok led n t){es:Array (Int × Value)}(he:es.size=n)(h:Int)(x:Value):∃ es' t',layNew t es h x=(es',t',false,false)∧es'.size=n + 1 ∧
 j9 t'.mask∧t'.mask=t.mask∧t'.place.size=n + 1∧Up t'.place∧t'.dummies = #[]∧t'.plain=true∧t'.led=led∧t'.fits (n + 1)=true:=by
 have hr:=o.room
 have hs:=o.size
 obtain ⟨j,ej,hj⟩:=vg o.mask o.up o.dum (by rw [hs]; omega) h
 have c:=d6 o.up j
 have e1:(SetTable.insertAt t.place (SetTable.below t.place j) j).size=n + 1:=by rw [dS _ _ _ c.1,hs]
 have e2:(SetTable.insertAt es (SetTable.below t.place j) (h,x)).size=n + 1:=by rw [dS _ _ _ (by have:=c.1; omega),he]
 have e3:SetTable.has t.dummies j=false:=by rw [o.dum]; simp [SetTable.has]
 have ep:t.put j=({ t with place:=SetTable.insertAt t.place (SetTable.below t.place j) j },SetTable.below t.place j):=by
  unfold SetTable.put; dsimp only; rw [e3]; rfl
 have ef:SetTable.fits { t with place:=SetTable.insertAt t.place (SetTable.below t.place j) j } (n + 1)=true:=by
  simp only [SetTable.fits,SetTable.fill,Bool.and_eq_true,beq_iff_eq,decide_eq_true_eq,o.dum]
  refine ⟨e1,?_⟩
  rw [e1,Array.size_empty]
  omega
 refine ⟨SetTable.insertAt es (SetTable.below t.place j) (h,x),{ t with place:=SetTable.insertAt t.place (SetTable.below t.place j) j },?_,e2,o.mask,rfl,e1,um o.up hj,o.dum,o.plain,o.led,ef⟩
 unfold layNew
 rw [ej]
 dsimp only
 rw [ep]
 dsimp only
 unfold SetTable.orStandIn
 rw [e2,ef]
 rfl
theorem zx:SetTable.sizeAbove (SetTable.grown 5) - 1=31:=by decide
theorem zq:SetTable.sizeAbove (SetTable.grown 19) - 1=127:=by decide
theorem vn {led:Bool}{n:Nat}{t:T}(hn:n < 76)(hm:j9 t.mask)(hr:n * 5 < t.mask * 3)(hs:t.place.size=n + 1)(d:t.dummies = #[])(hp:t.plain=true)(hl:t.led=led)
 {es:Array (Int × Value)}(he:es.size=n + 1)(hf:t.tooFull=true):∃ es' t',relayAll t es (SetTable.grown es.size)=(es',t',false)∧es'.size=n + 1∧Ok led (n + 1) t':=by
 have full:(n + 1) * 5 ≥ t.mask * 3:=by
  have:=hf
  simp only [SetTable.tooFull,SetTable.fill,hs,d,Array.size_empty,decide_eq_true_eq] at this
  omega
 have two:(t.mask=7∧n + 1=5)∨(t.mask=31∧n + 1=19):=by
  rcases hm with e | e | e <;> omega
 obtain ⟨mask,em,hm',hlt,hroom⟩:∃ mask,SetTable.sizeAbove (SetTable.grown es.size) - 1=mask∧j9 mask∧n + 1 < mask + 1∧(n + 1) * 5 < mask * 3:=by
  rw [he]
  rcases two with ⟨_,e⟩ | ⟨_,e⟩
  ·exact ⟨31,by rw [e]; exact zx,.inr (.inl rfl),by omega,by omega⟩
  ·exact ⟨127,by rw [e]; exact zq,.inr (.inr rfl),by omega,by omega⟩
 have e0:(es.map (·.1)).size=n + 1:=by rw [Array.size_map]; exact he
 obtain ⟨t',order,er,m1,m2,m3,m4,m5,m6,m7⟩:=oM (t:=t) (hs:=es.map (·.1)) em hm' (by rw [e0]; exact hlt)
 rw [e0] at m6 m7
 have es':(order.filterMap (es[·]?)).size=n + 1:=by
  have:=(m7.filterMap (fun i=>es[i]?)).length_eq
  rw [← he,filterMap_getElem?_range] at this
  rw [← Array.length_toList,Array.toList_filterMap]
  refine this.trans ?_
  rw [Array.length_toList,he]
 have O:Ok led (n + 1) t':=⟨by rw [m1]; exact hm',by rw [m1]; exact hroom,m6,m5,m2,m4.trans hp,m3.trans hl⟩
 refine ⟨order.filterMap (es[·]?),t',?_,es',O⟩
 unfold relayAll
 rw [er]
 dsimp only
 have c:coversAll order es.size=true:=by unfold coversAll; rw [he]; exact List.isPerm_iff.mpr m7
 rw [es',c,O.fits]
 rfl
open PyProof.Rows
def num:Value->Int
 | .int n _=>n
 | _=>0
abbrev Ent:=Int × Value
def El (e:Ent):Prop:=∃ n t,e=(hashInt n,.int n t)
structure Cont (es:Array Ent)(ns:List Int):Prop where
 isI:∀ e,e∈es.toList->El e
 perm:(es.toList.map fun e=>num e.2).Perm ns
abbrev i9 (es:Array Ent)(ep:Nat)(t:T):Obj:={ cls:=.type "set",dict:=none,data:=.set es ep t,slots:=#[] }
def jb (led:Bool)(h:Heap)(a:Addr)(ns:List Int):Prop:=∃ es ep t,h.get? a=some (i9 es ep t)∧Cont es ns∧es.size=ns.length∧Ok led ns.length t
theorem oj:∀ {vs:List Value},(∀ v,v∈vs->∃ n t,v = .int n t)->IntsAre vs (vs.map num)
 | [],_=>.nil
 | v :: vs,h=>by
   obtain ⟨n,t,rfl⟩:=h v List.mem_cons_self
   exact .cons n t (oj fun u hu=>h u (List.mem_cons_of_mem _ hu))
section
variable {prog:Program}{w:World}{A:Around}{E:Value->Shared->Prop}{s:Shared}
theorem Cont.elems {es:Array Ent}{ns:List Int}(c:Cont es ns):ElemsOf (intKind prog w) es.toList:=by
 intro e he
 obtain ⟨n,t,rfl⟩:=c.isI e he
 exact ⟨⟨n,intKind_is _ _ _ _,rfl⟩,rfl⟩
theorem Cont.has {es:Array Ent}{ns:List Int}(c:Cont es ns)(k:Int):(∃ e,e∈es.toList∧(intKind prog w).is k e.2=true) ↔ k∈ns:=by
 rw [← c.perm.mem_iff,List.mem_map]
 constructor
 ·rintro ⟨e,he,hk⟩
  obtain ⟨n,t,rfl⟩:=c.isI e he
  refine ⟨_,he,?_⟩
  exact (intKind prog w).inj (.int n t) n k (intKind_is _ _ _ _) hk
 ·rintro ⟨e,he,hk⟩
  obtain ⟨n,t,rfl⟩:=c.isI e he
  cases (show n=k from hk)
  exact ⟨_,he,intKind_is _ _ _ _⟩
theorem Cont.push {es es':Array Ent}{ns:List Int}(c:Cont es ns){k:Int}{tk:Tok}(p:es'.toList.Perm (es.toList++[(hashInt k,.int k tk)])):Cont es' (ns++[k]):=by
 refine ⟨fun e he=>?_,?_⟩
 ·rcases List.mem_append.mp (p.mem_iff.mp he) with h | h
  ·exact c.isI e h
  ·rw [List.mem_singleton] at h; exact ⟨k,tk,h⟩
 ·refine (p.map _).trans ?_
  rw [List.map_append]
  exact c.perm.append (List.Perm.refl _)
theorem Cont.perm' {es es':Array Ent}{ns:List Int}(c:Cont es ns)(p:es'.toList.Perm es.toList):Cont es' ns :=
 ⟨fun e he=>c.isI e (p.mem_iff.mp he),(p.map _).trans c.perm⟩
theorem pM {ns:List Int}{k:Int}(h:k∈ns):step_dedup ns k=ns:=by
 unfold step_dedup; rw [if_pos (List.any_eq_true.mpr ⟨k,h,by simp⟩)]
theorem iy {ns:List Int}{k:Int}(h:k ∉ ns):step_dedup ns k=ns++[k]:=by
 unfold step_dedup; rw [if_neg fun g=>?_]
 obtain ⟨x,hx,e⟩:=List.any_eq_true.mp g
 exact h ((by simpa using e:x=k) ▸ hx)
theorem rN {h:Heap}{a:Addr}{es es':Array Ent}{ep:Nat}{t t':T}(ho:h.get? a=some (i9 es ep t)):(h.update a (Obj.putSet es' t')).get? a=some (i9 es' (ep + 1) t'):=
 Heap.get?_update_self (Obj.putSet es' t') ho rfl
theorem C4 {led:Bool}{a:Addr}{ns:List Int}{k:Int}{tk:Tok}{Q:Bool->Shared->Prop}(S:jb led s.heap a ns)(hn:ns.length < 76)
 (hQ:∀ b h',Heap.SameBut a s.heap h'->jb led h' a (step_dedup ns k)->Q b { s with heap:=h' }):wpAny (model prog w) A (setAddHashed a (.int k tk) (hashInt k)) Q E s:=by
 obtain ⟨es,ep,t,ho,c,hz,O⟩:=S
 have hf:t.fits es.size=true:=by rw [hz]; exact O.fits
 have hel:ElemsOf (intKind prog w) es.toList:=c.elems
 have hb:es.size < scanBound:=by show _ < 4096; omega
 unfold setAddHashed setAddHashedIn
 refine wpAny_holding (wpAny_bind (wpAny_setState_of ho rfl hf ?_))
 dsimp only
 rw [byScan_of (knd:=intKind prog w) rfl hb hel,if_pos rfl]
 unfold setAddByScan
 refine wpAny_bind (wpAny_bind (wpAny_rule (wpAny_bind (wpAny_setScan_of (knd:=intKind prog w) (intKind_is _ _ k tk) ho rfl hf hel ?_))))
 cases hr:List.findIdx? (fun e=>(intKind prog w).is k e.2) es.toList with
 | some j =>
   obtain ⟨hj,hpj,_⟩:=List.findIdx?_eq_some_iff_getElem.mp hr
   have hk:k∈ns:=(c.has (prog:=prog) (w:=w) k).mp ⟨_,List.getElem_mem hj,hpj⟩
   refine wpAny_pure (wpAny_pure ?_)
   have:=hQ false s.heap (Heap.SameBut.refl a s.heap) (by rw [pM hk]; exact ⟨es,ep,t,ho,c,hz,O⟩)
   cases s; exact this
 | none =>
   have hk:k ∉ ns:=fun h=>by
    obtain ⟨e,he,hp⟩:=(c.has (prog:=prog) (w:=w) k).mpr h
    have:=List.findIdx?_eq_none_iff.mp hr e he
    rw [hp] at this; cases this
   obtain ⟨es1,t1,eL,z1,m1,m2,p1,u1,d1,pl1,l1,f1⟩:=Aa O hz (hashInt k) (.int k tk)
   have hp:=layNew_perm t es (hashInt k) (.int k tk)
   rw [eL,Array.toList_push] at hp
   have c1:Cont es1 (ns++[k]):=c.push hp
   dsimp only
   rw [eL]
   dsimp only
   refine wpAny_bind (wpAny_pure ?_)
   rw [pl1,if_pos rfl,hashByValue_scannable 8 (x:=.int k tk) rfl]
   refine wpAny_bind (wpAny_pure ?_)
   rw [if_pos (show plainKind (.int k tk)=true from rfl)]
   have len:(ns++[k]).length=ns.length + 1:=by rw [List.length_append]; rfl
   refine wpAny_bind (wpAny_storeSet_of ho rfl ?_ (fits_of_scanBound (by rw [z1]; show _ < 4096; omega)))
   have ho1:=rN (es':=es1) (t':=t1) ho
   have sb1:=Heap.SameBut.update s.heap a (Obj.putSet es1 t1)
   by_cases hfull:t1.tooFull=true
   ·obtain ⟨es2,t2,eR,z2,O2⟩:=vn hn m1 (by rw [m2]; exact O.room) p1 d1 pl1 l1 z1 hfull
    have hp2:=relayAll_perm t1 es1 (SetTable.grown es1.size)
    rw [eR] at hp2
    rw [if_pos (by rw [hfull]; rfl)]
    rw [eR]
    dsimp only
    refine wpAny_bind (wpAny_pure ?_)
    refine wpAny_bind (wpAny_storeSet_of ho1 rfl ?_ (fits_of_scanBound (by rw [z2]; show _ < 4096; omega)))
    refine wpAny_pure (wpAny_pure (hQ true _ (sb1.trans (Heap.SameBut.update _ a _)) ?_))
    rw [iy hk]
    exact ⟨es2,_,t2,rN ho1,c1.perm' hp2,by rw [len]; exact z2,by rw [len]; exact O2⟩
   ·have hnf:t1.tooFull=false:=by simpa using hfull
    rw [if_neg (by rw [hnf]; decide)]
    refine wpAny_pure (wpAny_pure (hQ true _ sb1 ?_))
    rw [iy hk]
    refine ⟨es1,_,t1,ho1,c1,by rw [len]; exact z1,?_⟩
    rw [len]
    refine ⟨m1,?_,p1,u1,d1,pl1,l1⟩
    simp only [SetTable.tooFull,SetTable.fill,p1,d1,Array.size_empty,decide_eq_false_iff_not] at hnf
    omega
end
abbrev own (w:World):Bool:=!w.params.followText "set-order"
abbrev GE:Array GenState->Array GenState->Prop:=fun a b=>b=a
structure Src (prog:Program)(w:World)(c:String)(its:Array Value)(Is:Heap->Addr->Prop)(itO:Addr->Obj):Prop where
 type:∀ h l,Is h l->∃ o,h.get? l=some o∧o.cls = .type c
 keep:∀ h h' l,Is h l->(∀ o,h.get? l=some o->h'.get? l=some o)->Is h' l
 iter:∀ (A:Around)(s:Shared) l (Q:Value->Shared->Prop)(E:Value->Shared->Prop),Is s.heap l->Q (.ref s.heap.objs.size) { s with heap:=s.heap.push (itO l) }->wpAny (model prog w) A (pyIter (.ref l)) Q E s
 walk:∀ (A:Around) I l,A.handled=none->l≠I->∃ G,WalksS prog w A I [I,l] [I] GE its.size (fun i v=>its[i]?=some v) G∧∀ s:Shared,Is s.heap l->s.heap.get? I=some (itO l)->G 0 s
 itNew:∀ (h:Heap) l,(h.push (itO l)).get? h.objs.size=some (itO l)
 s1:isSubtype (.type c) (.type "set")=pure false
 s2:isSubtype (.type c) (.type "frozenset")=pure false
 nd:(Value.type c == Value.type "dict")=false
section
variable {prog:Program}{w:World}{A:Around}{R:Result->Shared->Prop}{I:Addr}{fp wr:List Addr}{n:Nat}{P:Nat->Value->Prop}{G:Nat->Shared->Prop}
theorem vb {led:Bool}(W:WalksS prog w A.in1 I fp wr GE n P G)(a:Addr)(ha:a ∉ fp)(val:Nat->Int)(hv:∀ i v,P i v->∃ t,v = .int (val i) t)(hn:n < 76):
 ∀ (k i:Nat)(s:Shared),n - i=k->i≤n->G i s->jb led s.heap a (firstMet val i) →
   (∀ z,Moved (a :: wr) GE s z->jb led z.heap a (firstMet val n)->R (.ok (.ret .none)) z) →
   codeAny (model prog w) A (.builtin "set.update.loop" ⟨[.ref a,.ref I],[]⟩) R s:=by
 have aw:a ∉ wr:=fun h=>ha (W.sub _ h)
 have up:∀ b,b∈wr->b∈a :: wr:=fun b hb=>List.mem_cons_of_mem _ hb
 have mv:∀ {y z:Shared}{ns:List Int},Moved wr GE y z->jb led y.heap a ns->jb led z.heap a ns:=fun m ⟨es,ep,t,o,r⟩=>⟨es,ep,t,m.heap a _ aw o,r⟩
 intro k
 induction k with
 | zero =>
   intro i s hk hi g S hR
   cases (show i=n by omega)
   refine codeAny_builtin PyProof.Rows.F.entry_set_update_loop ?_
   rw [Around.under_plainId PyProof.Rows.F.plain_set_update_loop _]
   refine wpAny_bind (m:=pyNext (.ref I)) ?_
   exact W.done s _ _ g fun z m=>wpAny_pure (hR z (m.mono up) (mv m S))
 | succ k ih =>
   intro i s hk hi g S hR
   refine codeAny_builtin PyProof.Rows.F.entry_set_update_loop ?_
   rw [Around.under_plainId PyProof.Rows.F.plain_set_update_loop _]
   refine wpAny_bind (m:=pyNext (.ref I)) ?_
   refine W.item i s _ _ (by omega) g fun v z hp g1 m=>?_
   obtain ⟨t,rfl⟩:=hv i v hp
   refine wpAny_bind (m:=holding [Value.int (val i) t] (setAdd a (.int (val i) t))) (wpAny_holding ?_)
   unfold setAdd
   refine wpAny_holding (wpAny_bind ((intKind prog w).pyHash (k:=val i) (intKind_is _ _ _ _) ?_))
   refine C4 (s:={ z with toks:=z.toks + 1 }) (show jb led z.heap a _ from mv m S) (by have:=firstMet_length_le val i; omega) fun b h' sb S1=>?_
   rw [← firstMet_succ] at S1
   refine wpAny_pure ⟨plainId_quiet PyProof.Rows.F.plain_set_update_loop _,ih (i + 1) _ (by omega) (by omega) (W.frame _ z _ _ g1 (Nat.le_succ _) fun b hb o e=>?_) S1 fun y m1 S2=>?_⟩
   ·rw [sb.2 b fun h:b=a=>ha (h ▸ hb)]; exact e
   ·refine hR y (Moved.trans W.gtrans ((m.mono up).then_heap (Nat.le_succ _) fun b o hb e=>?_) m1) S2
    rw [sb.2 b fun h:b=a=>hb (by rw [h]; exact List.mem_cons_self)]; exact e
end
section
variable {prog:Program}{w:World}{A:Around}{E:Value->Shared->Prop}{s:Shared}
abbrev nN (w:World):Obj:=i9 #[] 0 (.fresh 0 0 (own w))
theorem Dw (v:Value){Q:Value->Shared->Prop}(h:Q (.ref s.heap.objs.size) { s with heap:=s.heap.push (nN w) }):
 codeAny (model prog w) A (.call (.builtin "set.__new__") ⟨[.type "set",v],[]⟩) (wants Q E) s:=by
 refine codeAny_of_tree (show wpAny _ A.in1 (checkBuiltinCall "set.__new__" ⟨[.type "set",v],[]⟩ >>= fun _=>again (.builtin "set.__new__" ⟨[.type "set",v],[]⟩)) _ _ s from ?_)
 refine wpAny_bind (wpAny_of_eq (F.newCall_set_1 v) (wpAny_pure ⟨plainId_quiet F.plain_set_new _,codeAny_builtin F.entry_set_new ?_⟩))
 rw [Around.under_plainId F.plain_set_new _]
 unfold Builtin.«set.__new__» Builtin.Frozenset.newClass
 have su:=sub_set_self
 cases s
 dsimp only
 wp_walk
 refine wpAny_askSetting (wpAny_pure ?_)
 dsimp only [newObj]
 exact wpAny_bind (wpAny_alloc (wpAny_pure (wpAny_pure h)))
set_option maxHeartbeats 3200000 in
theorem oW {c:String}{its:Array Value}{Is:Heap->Addr->Prop}{itO:Addr->Obj}(X:Src prog w c its Is itO){l:Addr}{ns:List Int}{Q:Value->Shared->Prop}
 (hh:A.handled=none)(hl:Is s.heap l)(hi:IntsAre its.toList ns)(hb:its.size < 76)
 (h:∀ (h':Heap)(tk:Nat),jb (own w) h' s.heap.objs.size (firstMet (fun i=>ns.getD i 0) its.size)->(∀ b o,b < s.heap.objs.size->s.heap.get? b=some o->h'.get? b=some o) →
  s.toks≤tk->Q (.ref s.heap.objs.size) { s with heap:=h',toks:=tk }):
 wpAny (model prog w) A (call (.type "set") [.ref l]) Q E s:=by
 obtain ⟨_,_,mro⟩:=F.called_set.mro
 have made:=F.called_set.made
 have su:=F.called_set.sub
 refine wpAny_call (codeAny_of_tree (show wpAny _ _ (callAny (.type "set") _) _ _ _ from wpAny_pure ⟨Code.quiet_builtin _ (by decide +kernel),codeAny_builtin F.entry_type_call ?_⟩))
 rw [Around.under_plain (weight_type_call_type "set" [.ref l] []) rfl]
 have k1:=F.called_set.notType
 have k2:=F.called_set.canCreate
 have k3:=F.typeCall_set_1 (.ref l)
 repeat (any_goals (first | assumption | wp_step))
 refine codeAny_mono (Dw (.ref l) (E:=E) (Q:=fun v z=>v = .ref s.heap.objs.size∧z={ s with heap:=s.heap.push (nN w) }) ⟨rfl,rfl⟩) fun r z hr=>?_
 cases r with
 | error e=>exact hr
 | ok fl =>
   cases fl with
   | ret obj =>
     obtain ⟨rfl,rfl⟩:=hr
     have oS:(s.heap.push (nN w)).get? s.heap.objs.size=some (nN w):=Heap.get?_push_size _ rfl
     have tS:Shared.TypeIs { s with heap:=s.heap.push (nN w) } (.ref s.heap.objs.size) "set":=⟨_,oS,rfl⟩
     have k4:=F.called_set.init.lookup
     have k5:=F.called_set.init.bind (.ref s.heap.objs.size)
     repeat (any_goals (first | assumption | wp_step))
     refine codeAny_mono (codeAny_call_builtin (R:=wants (fun v z=>v = .none∧∃ h' tk,z={ s with heap:=h',toks:=tk }∧jb (own w) h' s.heap.objs.size (firstMet (fun i=>ns.getD i 0) its.size) ∧
      (∀ b o,b < s.heap.objs.size->s.heap.get? b=some o->h'.get? b=some o)∧s.toks≤tk) E) F.called_set.init.plain F.entry_set_init (check_set_init_1 tS ?_)) fun r z hr=>?_
     ·have lS:Is (s.heap.push (nN w)) l:=X.keep _ _ _ hl fun o e=>Heap.get?_push_of_some _ e
      obtain ⟨⟨oc,od,oda,osl⟩,hol,hcl⟩:=X.type _ _ lS
      dsimp only at hcl
      subst hcl
      have hlt:l < s.heap.objs.size:=by
       obtain ⟨o,e,_⟩:=X.type _ _ hl
       exact Heap.lt_size e
      have tl:Shared.TypeIs { s with heap:=s.heap.push (nN w) } (.ref l) c:=⟨_,hol,rfl⟩
      have k6:=X.s1
      have k7:=X.s2
      have k8:=X.nd
      unfold Builtin.«set.__init__» noKeywords Builtin.Frozenset.updateFrom
      generalize ePI:pyIter=PI
      wp_walk
      subst ePI
      refine X.iter _ _ _ _ _ lS ?_
      refine wpAny_bind (wpAny_runValue ?_)
      have h3:A.in1.in1.in1.handled=none:=by simp [hh]
      have nI:l≠(s.heap.push (nN w)).objs.size:=by rw [Heap.size_push]; exact Nat.ne_of_lt (Nat.lt_succ_of_lt hlt)
      have nf:s.heap.objs.size ∉ [(s.heap.push (nN w)).objs.size,l]:=by
       rw [Heap.size_push]; simp only [List.mem_cons,List.not_mem_nil,or_false,not_or]
       exact ⟨Nat.ne_of_lt (Nat.lt_succ_self _),Nat.ne_of_gt hlt⟩
      obtain ⟨G,W,g0⟩:=X.walk A.in1.in1.in1 _ l h3 nI
      refine vb W s.heap.objs.size nf (fun i=>ns.getD i 0) (fun i v e=>IntsAre.int_at hi i v (by rw [Array.getElem?_toList]; exact e)) hb (its.size - 0) 0 _ rfl (Nat.zero_le _)
       (g0 _ (X.keep _ _ _ lS fun o e=>Heap.get?_push_of_some _ e) (X.itNew _ _)) ⟨#[],0,_,Heap.get?_push_of_some _ oS,⟨fun e he=>by simp at he,List.Perm.refl _⟩,rfl,Ok.fresh _⟩ ?_
      intro z m S
      have oldH:∀ b o,b < s.heap.objs.size->s.heap.get? b=some o->z.heap.get? b=some o:=fun b o hb e=>by
       refine m.heap b o ?_ (Heap.get?_push_of_some _ (Heap.get?_push_of_some _ e))
       rw [Heap.size_push]; simp only [List.mem_cons,List.not_mem_nil,or_false,not_or]
       exact ⟨Nat.ne_of_lt hb,Nat.ne_of_lt (Nat.lt_succ_of_lt hb)⟩
      have ez:z={ s with heap:=z.heap,toks:=z.toks }:=by
       have e1:z.gens=s.gens:=m.gens
       have e2:z.drawn=s.drawn:=m.drawn
       have e3:z.os=s.os:=m.os
       cases z; cases e1; cases e2; cases e3; rfl
      refine wpAny_pure (show wpAny _ _ (ret Value.none) _ _ _ from wpAny_pure ⟨rfl,z.heap,z.toks,ez,S,oldH,m.toks⟩)
     ·cases r with
      | error e=>exact hr
      | ok fl =>
        cases fl with
        | ret v =>
          obtain ⟨rfl,h',tk,rfl,S,oldH,htk⟩:=hr
          repeat (any_goals (first | assumption | wp_step))
          exact h h' tk S oldH htk
        | _=>exact hr.elim
   | _=>exact hr.elim
end
theorem xg (prog:Program)(w:World)(its:Array Value):Src prog w "list" its (fun h l=>h.IsList l its) (fun l=>{ cls:=.type "list_iterator",data:=.fields #[.ref l,.int 0 0] }) where
 type:=fun h l ⟨o,e,c,_⟩=>⟨o,e,c⟩
 keep:=fun h h' l ⟨o,e,r⟩ k=>⟨o,k o e,r⟩
 iter:=fun A s l Q E hl h=>wpAny_pyIter_list hl h
 walk:=fun A I l hh hne=>⟨_,(Walks.list hh I l hne its).toS,fun s hl e=>⟨⟨_,e,rfl,rfl⟩,hl⟩⟩
 itNew:=fun h l=>Heap.get?_push_size _ rfl
 s1:=F.sub_list_set
 s2:=F.sub_list_frozenset
 nd:=by decide
theorem zQ (prog:Program)(w:World)(its:Array Value):Src prog w "tuple" its (fun h l=>h.IsTuple l its) (fun l=>{ cls:=.type "tuple_iterator",data:=.fields #[.ref l,.int 0 0] }) where
 type:=fun h l ⟨o,e,c,_⟩=>⟨o,e,c⟩
 keep:=fun h h' l ⟨o,e,r⟩ k=>⟨o,k o e,r⟩
 iter:=fun A s l Q E hl h=>wpAny_pyIter_tuple hl h
 walk:=fun A I l hh hne=>⟨_,(Walks.tuple hh I l hne its).toS,fun s hl e=>⟨⟨_,e,rfl,rfl⟩,hl⟩⟩
 itNew:=fun h l=>Heap.get?_push_size _ rfl
 s1:=by rw [isSubtype_type]; kernel_rfl
 s2:=by rw [isSubtype_type]; kernel_rfl
 nd:=by decide
theorem ql {α:Type}{l:List α}{i:Nat}(h:i < l.length):(l[i] :: l.eraseIdx i).Perm l:=by
 rw [List.eraseIdx_eq_take_drop_succ]
 refine (List.perm_middle).symm.trans ?_
 rw [← List.drop_eq_getElem_cons h,List.take_append_drop]
theorem zO {α:Type}(f:Nat->Nat):∀ (n k:Nat)(l:List α)(out:Array α),n=l.length->(pickOrder.go f n k l out).toList.Perm (out.toList++l):=by
 intro n
 induction n with
 | zero =>
   intro k l out h
   cases l with
   | nil=>unfold pickOrder.go; rw [List.append_nil]
   | cons x l=>cases h
 | succ n ih =>
   intro k l out h
   unfold pickOrder.go
   have hl:f k % l.length < l.length:=Nat.mod_lt _ (by omega)
   rw [List.getElem?_eq_getElem hl]
   dsimp only
   refine (ih (k + 1) _ _ (by rw [List.length_eraseIdx_of_lt hl]; omega)).trans ?_
   rw [Array.toList_push,List.append_assoc]
   exact List.Perm.append_left _ (ql hl)
theorem uH {α:Type}(f:Nat->Nat)(xs:Array α):(pickOrder f xs).toList.Perm xs.toList:=by
 have:=zO f xs.size 0 xs.toList #[] (by rw [Array.length_toList])
 exact this
def vQ (w:World)(a:Addr)(ep:Nat)(es:Array Ent):Array Ent:=if w.params.followText "set-order" then pickOrder (w.params.setOrder a ep) es else es
theorem kx (w:World)(a:Addr)(ep:Nat)(es:Array Ent):(vQ w a ep es).toList.Perm es.toList:=by
 unfold vQ
 split
 ·exact uH _ _
 ·exact List.Perm.refl _
def gk (w:World)(t:T)(i:Nat):Nat:=if w.params.followText "set-order" then 0 else if i=0 then 0 else t.place.getD (i - 1) 0 + 1
abbrev vN (w:World)(t:T)(a:Addr)(n ep i:Nat):Obj:={ cls:=.type "set_iterator",data:=.fields #[rawInt (gk w t i),rawInt i,.ref a,rawInt n,rawInt ep] }
theorem fV:Slot "set_iterator" "__next__" "set_iterator.__next__" :=
 .of (owner:="set_iterator") (n:="__next__") (by rw [typeLookup_type,builtinLookup_eq_fast]; kernel_rfl) (by decide +kernel) (by decide +kernel) (by decide +kernel) (by first | exact .inl (by decide +kernel) | exact .inr (by decide +kernel)) (by rw [isSubtype_type]; kernel_rfl)
theorem sW:entryFor table "set_iterator.__next__"=some Builtin.«set_iterator.__next__»:=entryFor_of_tree (by kernel_rfl)
theorem tL (a:Value):argsOk "set_iterator.__next__" ⟨[a],[]⟩:=by unfold argsOk; kernel_rfl
theorem tN:Slot "set_iterator" "__iter__" "set_iterator.__iter__" :=
 .of (owner:="set_iterator") (n:="__iter__") (by rw [typeLookup_type,builtinLookup_eq_fast]; kernel_rfl) (by decide +kernel) (by decide +kernel) (by decide +kernel) (by first | exact .inl (by decide +kernel) | exact .inr (by decide +kernel)) (by rw [isSubtype_type]; kernel_rfl)
theorem zI:entryFor table "set_iterator.__iter__"=some Builtin.«dict_keyiterator.__iter__» :=
 entryFor_alias (id':="dict_keyiterator.__iter__") (by kernel_rfl) rfl (by decide +kernel) (by kernel_rfl)
theorem yI (a:Value):argsOk "set_iterator.__iter__" ⟨[a],[]⟩:=by unfold argsOk; kernel_rfl
theorem p6:entryFor table "set.__iter__"=some Builtin.«frozenset.__iter__» :=
 entryFor_alias (id':="frozenset.__iter__") (by kernel_rfl) rfl (by decide +kernel) (by kernel_rfl)
section
variable {prog:Program}{w:World}{A:Around}{E:Value->Shared->Prop}{s:Shared}
theorem kI {a:Addr}{es:Array Ent}{ep n:Nat}{t:T}{led:Bool}{Q:(Array Ent × Nat × T)->Shared->Prop}(ho:s.heap.get? a=some (i9 es ep t))(O:Ok led n t)(hz:es.size=n)(h:Q (es,ep,t) s):
 wpAny (model prog w) A (setState a) Q E s:=wpAny_setState_of ho rfl (by rw [hz]; exact O.fits) h
theorem qR {Q:Bool->Shared->Prop}(h:Q (w.params.followText "set-order") s):wpAny (model prog w) A setsByText Q E s:=by
 unfold setsByText
 exact wpAny_bind (wpAny_askSetting (wpAny_pure h))
theorem sY {a:Addr}{es:Array Ent}{ep n i:Nat}{t:T}{Q:Option (Value × Nat)->Shared->Prop}(ho:s.heap.get? a=some (i9 es ep t))(O:Ok (own w) n t)(hz:es.size=n)(hi:i≤n)
 (h:Q (((vQ w a ep es)[i]?).map fun e=>(e.2,gk w t (i + 1))) s):wpAny (model prog w) A (setNext a (gk w t i) i ep) Q E s:=by
 unfold setNext
 refine wpAny_bind (kI ho O hz ?_)
 dsimp only
 refine wpAny_bind (qR ?_)
 by_cases ht:w.params.followText "set-order"=true
 ·rw [if_pos ht,if_neg (by simp)]
  unfold setWalk
  refine wpAny_bind (wpAny_bind (kI ho O hz ?_))
  dsimp only
  refine wpAny_bind (qR ?_)
  rw [if_pos ht]
  refine wpAny_bind (wpAny_askSetting (wpAny_pure (wpAny_pure ?_)))
  simp only [vQ,gk,ht,if_true] at h ⊢
  exact h
 ·rw [if_neg ht]
  have hd:(!t.plain&&decide (es.size > 1))=false:=by rw [O.plain]; rfl
  show wpAny _ _ (if (!t.plain&&decide (es.size > 1))=true then _ else _) _ _ _
  rw [hd,if_neg (by decide)]
  have hled:t.led=true:=by rw [O.led]; simp [own,ht]
  refine wpAny_bind ?_
  show wpAny _ _ (if (!t.led&&!es.isEmpty)=true then _ else _) _ _ _
  rw [hled,if_neg (by simp)]
  refine wpAny_pure ?_
  have eb:SetTable.below t.place (gk w t i)=i:=by
   unfold gk
   rw [if_neg ht]
   by_cases h0:i=0
   ·rw [if_pos h0,h0]; exact rA O.up
   ·rw [if_neg h0,qE O.up (by rw [O.size]; omega)]; omega
  refine wpAny_pure ?_
  rw [eb]
  have eo:vQ w a ep es=es:=by unfold vQ; rw [if_neg ht]
  rw [eo] at h
  rcases Nat.lt_or_ge i n with g | g
  ·have e1:es[i]?=some (es[i]'(by omega)):=by simp [show i < es.size from by omega]
   have e2:t.place[i]?=some (t.place.getD i 0):=qg (by rw [O.size]; exact g)
   rw [e1] at h
   rw [e1,e2]
   have e3:gk w t (i + 1)=t.place.getD i 0 + 1:=by unfold gk; rw [if_neg ht,if_neg (by omega)]; rfl
   rw [e3] at h
   exact h
  ·have e1:es[i]?=none:=Array.getElem?_eq_none (by omega)
   rw [e1] at h ⊢
   exact h
theorem yT {a I:Addr}{es:Array Ent}{ep n i:Nat}{t:T}{x:Ent}{Q:Option Value->Shared->Prop}(ho:s.heap.get? a=some (i9 es ep t))(hI:s.heap.get? I=some (vN w t a n ep i))(O:Ok (own w) n t)(hz:es.size=n)
 (hi:i < n)(hx:(vQ w a ep es)[i]?=some x)(hQ:∀ h',h'.get? I=some (vN w t a n ep (i + 1))->Heap.SameBut I s.heap h'->Q (some x.2) { s with heap:=h' }):
 wpAny (model prog w) A (pyNext (.ref I)) Q E s:=by
 have tI:s.TypeIs (.ref I) "set_iterator":=⟨_,hI,rfl⟩
 unfold pyNext
 refine wpAny_bind (wpAny_attempt (wpAny_callSpecial?_slot (name:=Str.ofString "__next__") tI fV (wpAny_call_entry fV tI sW ?_ (tL _))))
 unfold Builtin.«set_iterator.__next__»
 refine wpAny_bind (m:=slotArgs "__next__" 0 _) (wpAny_pure ?_)
 refine wpAny_bind (wpAny_fieldsOf hI rfl ?_)
 dsimp only [rawInt]
 refine wpAny_bind (wpAny_setEntries_of ho rfl (by rw [hz]; exact O.fits) ?_)
 rw [if_neg (by rw [hz]; simp)]
 simp only [Int.toNat_natCast]
 refine wpAny_bind (sY ho O hz (Nat.le_of_lt hi) ?_)
 rw [hx]
 dsimp only [Option.map]
 refine wpAny_bind (wpAny_setField_rec hI (by simp) fun h1 o1 b1=>?_)
 refine wpAny_bind (wpAny_setField_rec (s:={ s with heap:=h1 }) o1 (by simp) fun h2 o2 b2=>?_)
 refine wpAny_pure ⟨_,rfl,wpAny_pure (hQ h2 ?_ (b1.trans b2))⟩
 rw [o2]
 rfl
theorem Bq {a I:Addr}{es:Array Ent}{ep n:Nat}{t:T}{Q:Option Value->Shared->Prop}(hh:A.handled=none)(ho:s.heap.get? a=some (i9 es ep t))(hI:s.heap.get? I=some (vN w t a n ep n))(O:Ok (own w) n t)(hz:es.size=n)
 (hQ:∀ h',Heap.ExtBut I s.heap h'->Q none { s with heap:=h' }):wpAny (model prog w) A (pyNext (.ref I)) Q E s:=by
 have tI:s.TypeIs (.ref I) "set_iterator":=⟨_,hI,rfl⟩
 have hx:(vQ w a ep es)[n]?=none:=Array.getElem?_eq_none (by rw [← Array.length_toList,(kx w a ep es).length_eq,Array.length_toList,hz]; exact Nat.le_refl _)
 unfold pyNext
 refine wpAny_bind (wpAny_attempt (wpAny_callSpecial?_slot (name:=Str.ofString "__next__") tI fV (wpAny_call_entry fV tI sW ?_ (tL _))))
 unfold Builtin.«set_iterator.__next__»
 refine wpAny_bind (m:=slotArgs "__next__" 0 _) (wpAny_pure ?_)
 refine wpAny_bind (wpAny_fieldsOf hI rfl ?_)
 dsimp only [rawInt]
 refine wpAny_bind (wpAny_setEntries_of ho rfl (by rw [hz]; exact O.fits) ?_)
 rw [if_neg (by rw [hz]; simp)]
 simp only [Int.toNat_natCast]
 refine wpAny_bind (sY ho O hz (Nat.le_refl _) ?_)
 rw [hx]
 dsimp only [Option.map]
 refine wpAny_bind (wpAny_setField hI rfl (by simp) ?_)
 refine wpAny_bind (m:=newExc (.type "StopIteration") []) ?_
 unfold newExc newTuple
 refine wpAny_bind (wpAny_newObj_type ?_ (by size_fits))
 refine wpAny_bind (m:=firstArgMember _ _) (wpAny_of_eq (a:=Value.none) rfl ?_)
 refine wpAny_newObj_type ?_ (by size_fits)
 unfold raiseNew
 refine wpAny_bind (wpAny_handled ?_)
 rw [show A.in1.handled=none from hh]
 refine wpAny_bind (wpAny_pure (wpAny_throw ?_))
 refine wpAny_bind (wpAny_isInstance (b:=true) (T:="StopIteration") ⟨_,Heap.get?_push_size _ rfl,rfl⟩ isSubtype_stop ?_)
 refine wpAny_pure (hQ _ ?_)
 exact ((Heap.SameBut.update ..).extBut.push _).push _
theorem AM {a I:Addr}{es:Array Ent}{ep n:Nat}{t:T}(hh:A.handled=none)(hne:a≠I)(O:Ok (own w) n t)(hz:es.size=n):
 WalksS prog w A I [I,a] [I] GE n (fun i v=>((vQ w a ep es)[i]?).map Prod.snd=some v) (fun i s=>s.heap.get? a=some (i9 es ep t)∧s.heap.get? I=some (vN w t a n ep i)) where
 sub:=fun b hb=>by simp at hb; simp [hb]
 grefl:=fun _=>rfl
 gtrans:=fun _ _ _ h1 h2=>h2.trans h1
 frame:=fun i s h' tk g _ k=>⟨k a (by simp) _ g.1,k I (by simp) _ g.2⟩
 item:=fun i s Q E hi g hQ=>by
  have hl:i < (vQ w a ep es).size:=by rw [← Array.length_toList,(kx w a ep es).length_eq,Array.length_toList,hz]; exact hi
  have hx:(vQ w a ep es)[i]?=some ((vQ w a ep es)[i]):=by simp [hl]
  refine yT g.1 g.2 O hz hi hx fun h' o b=>hQ _ _ (by rw [hx]; rfl) ⟨b.extBut a _ hne g.1,o⟩ ⟨fun c o hc e=>b.extBut c o (fun h=>hc (by simp [h])) e,rfl,rfl,rfl,Nat.le_refl _⟩
 done:=fun s Q E g hQ=>Bq hh g.1 g.2 O hz fun h' k=>hQ _ ⟨fun c o hc e=>k c o (fun h=>hc (by simp [h])) e,rfl,rfl,rfl,Nat.le_refl _⟩
 self:=fun i s Q E g hQ=>by
  have tI:s.TypeIs (.ref I) "set_iterator":=⟨_,g.2,rfl⟩
  refine wpAny_pyIter_slot tI tN (wpAny_call_entry tN tI zI ?_ (yI _))
  exact wpAny_pure ⟨_,rfl,"set_iterator",_,tI,fV.lookup,hQ⟩
theorem BO {a:Addr}{es:Array Ent}{ep n:Nat}{t:T}{Q:Value->Shared->Prop}(ho:s.heap.get? a=some (i9 es ep t))(O:Ok (own w) n t)(hz:es.size=n)
 (h:Q (.ref s.heap.objs.size) { s with heap:=s.heap.push (vN w t a n ep 0) }):wpAny (model prog w) A (pyIter (.ref a)) Q E s:=by
 have ta:s.TypeIs (.ref a) "set":=⟨_,ho,rfl⟩
 have hf:t.fits es.size=true:=by rw [hz]; exact O.fits
 refine wpAny_pyIter_slot ta F.slot_set_iter (wpAny_call_entry F.slot_set_iter ta p6 ?_ (F.args_set_iter_1 _))
 unfold Builtin.«frozenset.__iter__» Builtin.Frozenset.slot0
 refine wpAny_bind (m:=slotArgs "__iter__" 0 _ >>= _) (wpAny_bind (wpAny_pure (wpAny_pure ?_)))
 unfold Builtin.Frozenset.sizeOf
 refine wpAny_bind (wpAny_bind (wpAny_setEntries_of ho rfl hf (wpAny_pure ?_)))
 have es0:gk w t 0=0:=by unfold gk; split <;> rfl
 unfold setDrawn
 refine wpAny_bind (wpAny_bind (kI ho O hz ?_))
 dsimp only
 refine wpAny_bind (qR (wpAny_pure ?_))
 have hd:(!w.params.followText "set-order"&&(!t.plain&&decide (es.size > 1)))=false:=by rw [O.plain]; simp
 refine (show wpAny _ _ (if (!w.params.followText "set-order"&&(!t.plain&&decide (es.size > 1)))=true then _ else _) _ _ _ from ?_)
 rw [hd,if_neg (by decide)]
 refine wpAny_bind (wpAny_pure (wpAny_bind (wpAny_setEpoch_of ho rfl hf ?_)))
 refine wpAny_bind (wpAny_newObj_type (wpAny_pure ⟨_,rfl,"set_iterator",_,⟨_,Heap.get?_push_size _ rfl,rfl⟩,fV.lookup,?_⟩))
 rw [hz]
 unfold vN at h
 rw [es0] at h
 exact h
end
abbrev gR (xs:Array Value)(c:Nat):Obj:={ cls:=.type "list",dict:=none,data:=.seq xs c,slots:=#[] }
section
variable {prog:Program}{w:World}{A:Around}{E:Value->Shared->Prop}{s:Shared}
theorem xE:typeLookup (.type "set") "__len__"=pure (some (.builtin "set.__len__")):=F.slot_set_len.lookup
theorem oR {α:Type}{c:Bool}{x y:Sem α}{Q:α->Shared->Prop}(h:c=true)(g:wpAny (model prog w) A x Q E s):wpAny (model prog w) A (if c=true then x else y) Q E s:=by
 rw [if_pos h]; exact g
theorem Bj {a:Addr}{Q:Bool->Shared->Prop}(ta:s.TypeIs (.ref a) "set")(h:Q false s):wpAny (model prog w) A (Builtin.List.listLengthHint (.ref a)) Q E s:=by
 unfold Builtin.List.listLengthHint
 refine wpAny_bind (wpAny_specialOf ta xE ?_)
 dsimp only
 rw [show splitId "set.__len__"=some ("set","__len__") from by decide +kernel]
 dsimp only
 refine wpAny_bind (wpAny_isInstance ta sub_set_self ?_)
 rw [if_neg (by decide)]
 exact oR (by decide +kernel) (wpAny_bind (wpAny_typeOf ta (wpAny_pure h)))
theorem Au {P:Array Ent}{es:Array Ent}{ns:List Int}(c:Cont es ns)(p:P.toList.Perm es.toList){acc:Array Value}{n:Nat}(hz:es.size=n)(h:ItemsOf (fun i v=>(P[i]?).map Prod.snd=some v) acc n):
 ∃ ms,IntsAre acc.toList ms∧ms.Perm ns:=by
 have hP:P.toList.length=n:=by rw [p.length_eq,Array.length_toList,hz]
 have e:acc.toList=P.toList.map Prod.snd:=by
  refine List.ext_getElem? fun i=>?_
  rw [List.getElem?_map,Array.getElem?_toList,Array.getElem?_toList]
  rcases Nat.lt_or_ge i n with g | g
  ·have ha:acc[i]?=some (acc[i]'(by rw [h.1]; exact g)):=by simp [h.1,g]
   rw [ha,h.2 i _ ha]
  ·rw [Array.getElem?_eq_none (by rw [h.1]; exact g),Array.getElem?_eq_none (by rw [← Array.length_toList,hP]; exact g)]; rfl
 have c':Cont P ns:=c.perm' p
 refine ⟨_,oj (vs:=acc.toList) fun v hv=>?_,?_⟩
 ·rw [e] at hv
  obtain ⟨x,hx,rfl⟩:=List.mem_map.mp hv
  obtain ⟨k,t,rfl⟩:=c'.isI x hx
  exact ⟨k,t,rfl⟩
 ·rw [e,List.map_map]
  exact c'.perm
set_option maxHeartbeats 3000000 in
theorem vk {a:Addr}{ns:List Int}{Q:List Value->Shared->Prop}(hh:A.handled=none)(S:jb (own w) s.heap a ns)(hn:ns.length < 4000)
 (hQ:∀ (h':Heap)(tk:Nat)(vs:List Value)(ms:List Int),IntsAre vs ms->ms.Perm ns->(∀ b o,s.heap.get? b=some o->h'.get? b=some o)->s.toks≤tk->Q vs { s with heap:=h',toks:=tk }):
 wpAny (model prog w) A (collect (.ref a)) Q E s:=by
 obtain ⟨es,ep,t,ho,c,hz,O⟩:=S
 have hlt:a < s.heap.objs.size:=Heap.lt_size ho
 unfold collect
 refine wpAny_bind (wpAny_runValue (codeAny_builtin PySem.F.entry_proto_collect ?_))
 rw [Around.under_plainId PySem.F.plain_proto_collect _]
 refine wpAny_bind (m:=newList []) (wpAny_newObj_type ?_)
 refine wpAny_pure ⟨plainId_quiet PySem.F.plain_list_iadd _,codeAny_builtin PySem.F.entry_list_iadd ?_⟩
 rw [Around.under_plainId PySem.F.plain_list_iadd _]
 refine (show wpAny _ A.in1 (Builtin.List.listExtendWith (.ref s.heap.objs.size) (.ref a) (.ref s.heap.objs.size)) _ _ _ from ?_)
 unfold Builtin.List.listExtendWith
 have ho1:(s.heap.push (gR #[] 0)).get? a=some (i9 es ep t):=Heap.get?_push_of_some _ ho
 refine wpAny_bind (wpAny_typeOf (T:="set") ⟨_,ho1,rfl⟩ ?_)
 rw [if_neg (by
  have:Builtin.List.listSameRef (.ref s.heap.objs.size) (.ref a)=false:=by
   simp only [Builtin.List.listSameRef,beq_eq_false_iff_ne]; exact Nat.ne_of_gt hlt
  rw [this]; decide)]
 refine wpAny_bind (BO (s:={ s with heap:=s.heap.push (gR #[] 0) }) ho1 O hz ?_)
 have ho2:((s.heap.push (gR #[] 0)).push (vN w t a ns.length ep 0)).get? a=some (i9 es ep t):=Heap.get?_push_of_some _ ho1
 refine wpAny_bind (wpAny_holding (Bj ⟨_,ho2,rfl⟩ ?_))
 have hI0:((s.heap.push (gR #[] 0)).push (vN w t a ns.length ep 0)).get? (s.heap.push (gR #[] 0)).objs.size=some (vN w t a ns.length ep 0):=Heap.get?_push_size _ rfl
 have hL0:((s.heap.push (gR #[] 0)).push (vN w t a ns.length ep 0)).get? s.heap.objs.size=some (gR #[] 0):=Heap.get?_push_of_some _ (Heap.get?_push_size _ rfl)
 have AA:(s.heap.push (gR #[] 0)).objs.size=s.heap.objs.size + 1:=Heap.size_push _ _
 refine oR (by decide +kernel) (wpAny_bind (wpAny_rule (wpAny_bind ?_)))
 refine (show wpAny _ A.in1 (updateSeq s.heap.objs.size (·.push .none) >>= fun _=>updateSeq s.heap.objs.size (·.pop)) _ _ _ from wpAny_bind (wpAny_updateSeq hL0 rfl ?_))
 have hL1:=Heap.get?_update_self (Obj.mapSeq (·.push Value.none)) hL0 rfl
 refine wpAny_updateSeq hL1 rfl ?_
 have hL2:=Heap.get?_update_self (Obj.mapSeq (·.pop)) hL1 rfl
 have up:∀ b o,b≠s.heap.objs.size->((s.heap.push (gR #[] 0)).push (vN w t a ns.length ep 0)).get? b=some o →
  ((((s.heap.push (gR #[] 0)).push (vN w t a ns.length ep 0)).update s.heap.objs.size (Obj.mapSeq (·.push Value.none))).update s.heap.objs.size (Obj.mapSeq (·.pop))).get? b=some o :=
  fun b o hb e=>(Heap.get?_update_other _ _ (Ne.symm hb)).trans ((Heap.get?_update_other _ _ (Ne.symm hb)).trans e)
 have nI:a≠(s.heap.push (gR #[] 0)).objs.size:=by rw [AA]; exact Nat.ne_of_lt (Nat.lt_succ_of_lt hlt)
 have nL:(s.heap.push (gR #[] 0)).objs.size≠s.heap.objs.size:=by rw [AA]; exact Nat.succ_ne_self _
 have W:=AM (prog:=prog) (A:=A.in1) (ep:=ep) (es:=es) (by simp [hh]) nI O hz
 refine wpAny_pure ⟨plainId_quiet PySem.F.plain_extend_loop _,codeAny_extend_loopS W (by rw [sizeLine_eq]; omega) s.heap.objs.size (by
  simp only [List.mem_cons,List.not_mem_nil,or_false,not_or]; exact ⟨nL.symm,Nat.ne_of_gt hlt⟩) _ ns.length 0 _ _ _ rfl (Nat.zero_le _) ⟨up _ _ (Nat.ne_of_lt hlt) ho2,up _ _ nL hI0⟩ hL2 (ItemsOf.nil _) fun z acc c' m oz it=>?_⟩
 refine wpAny_bind (wpAny_load oz (wpAny_pure ?_))
 obtain ⟨ms,i1,i2⟩:=Au c (kx w a ep es) hz it
 have ez:z={ s with heap:=z.heap,toks:=z.toks }:=by
  have e1:z.gens=s.gens:=m.gens
  have e2:z.drawn=s.drawn:=m.drawn
  have e3:z.os=s.os:=m.os
  cases z; cases e1; cases e2; cases e3; rfl
 rw [ez]
 refine hQ z.heap z.toks acc.toList ms i1 i2 (fun b o e=>?_) m.toks
 have hb:=Heap.lt_size e
 refine m.heap b o ?_ (up b o (Nat.ne_of_lt hb) (Heap.get?_push_of_some _ (Heap.get?_push_of_some _ e)))
 simp only [List.mem_cons,List.not_mem_nil,or_false,not_or]
 refine ⟨Nat.ne_of_lt hb,?_⟩
 rw [AA]; exact Nat.ne_of_lt (Nat.lt_succ_of_lt hb)
theorem vB {h:Heap}{D:Addr}{vs:List Value}{c:Nat}(out:Array Value)(e:h.get? D=some (seqObj "list" vs.toArray c)):∃ c',(sortedHeap h D vs out).get? D=some (gR out c'):=by
 have hD:=Heap.lt_size e
 have e1:=get?_update_seq e (fun _=>#[])
 unfold sortedHeap
 have e2:(((h.update D (Obj.mapSeq fun _=>#[])).push (seqObj "tuple" vs.toArray 0)).push (seqObj "list" #[] 0)).get? D=_:=Heap.get?_push_of_some _ (Heap.get?_push_of_some _ e1)
 exact ⟨_,get?_update_seq e2 fun _=>out⟩
theorem qp {h:Heap}{D b:Addr}{vs:List Value}{out:Array Value}{o:Obj}(hb:b≠D)(e:h.get? b=some o):(sortedHeap h D vs out).get? b=some o:=by
 unfold sortedHeap
 refine (Heap.get?_update_other _ _ (Ne.symm hb)).trans (Heap.get?_push_of_some _ (Heap.get?_push_of_some _ ((Heap.get?_update_other _ _ (Ne.symm hb)).trans e)))
theorem wJ {a:Addr}{ns:List Int}{Q:Value->Shared->Prop}(hh:A.handled=none)(S:jb (own w) s.heap a ns)(h64:ns.length < 64)
 (h:∀ (h':Heap)(tk:Nat)(D:Addr)(out:Array Value)(ms:List Int)(c:Nat),IntsAre out.toList ms->ms.Perm ns->ms.Pairwise (· ≤ ·)->h'.get? D=some (gR out c)->s.heap.get? D=none →
  (∀ b o,s.heap.get? b=some o->h'.get? b=some o)->s.toks≤tk->Q (.ref D) { s with heap:=h',toks:=tk }):wpAny (model prog w) A (call (.builtin "sorted") [.ref a]) Q E s:=by
 refine Calls.call_function_entry kind_sorted plain_sorted entry_sorted (args_sorted1 _) ?_
 unfold Builtin.«sorted»
 refine wpAny_bind (m:=checkCount "sorted" 1 1 _) (wpAny_pure ?_)
 refine wpAny_bind (vk (by simpa using hh) S (by omega) fun h1 tk vs ms i1 i2 k1 t1=>?_)
 have hv:vs.length < 64:=by
  have:=i1.length
  rw [this,i2.length_eq]; exact h64
 refine wpAny_bind (m:=newList vs) (wpAny_newList ?_ (hsz:=by rw [sizeLine_eq]; omega))
 have oD:(h1.push (seqObj "list" vs.toArray 0)).get? h1.objs.size=some (seqObj "list" vs.toArray 0):=Heap.get?_push_size _ rfl
 have fr:s.heap.get? h1.objs.size=none:=by
  cases e:s.heap.get? h1.objs.size with
  | none=>rfl
  | some o=>exact absurd (Heap.lt_size (k1 _ _ e)) (Nat.lt_irrefl _)
 refine wpAny_bind (wpAny_holding (wpAny_call_entry slot_list_sort ⟨_,oD,rfl⟩ entry_list_sort (list_sort_tree oD i1 hv fun out ns' a1 a2 a3=>⟨_,rfl,?_⟩) (args_list_sort _)))
 obtain ⟨c,oc⟩:=vB out oD
 refine wpAny_pure ⟨_,rfl,h _ tk _ out ns' c a1 (a2.trans i2) a3 oc fr (fun b o e=>?_) t1⟩
 exact qp (fun q=>by rw [q,fr] at e; cases e) (Heap.get?_push_of_some _ (k1 b o e))
end
end St
namespace L2
open PySem PySem.Spec PyProof.Rows PySem.W
def uU (ns:List Int):List Int:=firstMet (fun i=>ns.getD i 0) ns.length
theorem mi (ns:List Int):uU ns=ns.foldl step_dedup []:=by
 have e:(List.range ns.length).map (fun i=>ns.getD i 0)=ns:=by
  apply List.ext_getElem
  ·simp
  ·intro i h1 h2
   simp [h2]
 unfold uU firstMet
 rw [e]
theorem fM:∀ (ns acc:List Int),acc.Nodup->(ns.foldl step_dedup acc).Nodup∧∀ x,x∈ns.foldl step_dedup acc ↔ x∈acc∨x∈ns
 | [],acc,h=>⟨h,fun x=>by simp⟩
 | n :: ns,acc,h=>by
   rw [List.foldl_cons]
   by_cases q:n∈acc
   ·rw [St.pM q]
    obtain ⟨a,b⟩:=fM ns acc h
    refine ⟨a,fun x=>(b x).trans ⟨fun z=>z.imp id (List.mem_cons_of_mem _),fun z=>?_⟩⟩
    rcases z with z | z
    ·exact .inl z
    ·rcases List.mem_cons.mp z with rfl | z
     ·exact .inl q
     ·exact .inr z
   ·rw [St.iy q]
    have nd:(acc++[n]).Nodup:=by
     refine List.nodup_append.mpr ⟨h,by simp,fun a ha b hb z=>?_⟩
     rw [List.mem_singleton] at hb
     exact q (hb ▸ z ▸ ha)
    obtain ⟨a,b⟩:=fM ns (acc++[n]) nd
    refine ⟨a,fun x=>(b x).trans ?_⟩
    rw [List.mem_append,List.mem_singleton,List.mem_cons,or_assoc]
theorem qX (ns:List Int):(uU ns).Nodup:=by rw [mi]; exact (fM ns [] List.nodup_nil).1
theorem xy (ns:List Int)(x:Int):x∈uU ns ↔ x∈ns:=by
 rw [mi,(fM ns [] List.nodup_nil).2]; simp
theorem rR (ns:List Int):(uU ns).length≤ns.length:=firstMet_length_le _ _
theorem Dz {ms:List Int}(h:ms.Pairwise (· ≤ ·))(d:ms.Nodup):ms.Pairwise (· < ·):=
 (List.Pairwise.and h d).imp fun ⟨a,b⟩=>Int.lt_iff_le_and_ne.mpr ⟨a,b⟩
theorem tH:∀ {xs ys:List Int},xs.Pairwise (· < ·)->ys.Pairwise (· < ·)->(∀ x,x∈xs ↔ x∈ys)->xs=ys
 | [],[],_,_,_=>rfl
 | [],y :: ys,_,_,h=>absurd ((h y).mpr List.mem_cons_self) (by simp)
 | x :: xs,[],_,_,h=>absurd ((h x).mp List.mem_cons_self) (by simp)
 | x :: xs,y :: ys,a,b,h=>by
   obtain ⟨a1,a2⟩:=List.pairwise_cons.mp a
   obtain ⟨b1,b2⟩:=List.pairwise_cons.mp b
   have e:x=y:=by
    rcases List.mem_cons.mp ((h x).mp List.mem_cons_self) with e | e
    ·exact e
    ·rcases List.mem_cons.mp ((h y).mpr List.mem_cons_self) with e2 | e2
     ·exact e2.symm
     ·have:=b1 _ e; have:=a1 _ e2; omega
   subst e
   rw [tH a2 b2 fun z=>⟨fun hz=>?_,fun hz=>?_⟩]
   ·rcases List.mem_cons.mp ((h z).mp (List.mem_cons_of_mem _ hz)) with e | e
    ·have:=a1 _ hz; omega
    ·exact e
   ·rcases List.mem_cons.mp ((h z).mpr (List.mem_cons_of_mem _ hz)) with e | e
    ·have:=b1 _ hz; omega
    ·exact e
def xk (K:Frag)(ta:TE):TE:=fun σ H Q=>cT ta tNil σ H fun vs H1=>∃ (l:Addr)(ns:List Int),vs=[.ref l]∧(br K H1 l (ns.map V.int)∨bf K H1 l (ns.map V.int))∧ns.length < 64 ∧
 ∀ (D:Addr)(ms:List Int),H1 D=none->ms.Pairwise (· < ·)->(∀ x,x∈ms ↔ x∈ns)->Q (.ref D) (upd H1 D (.lst (ms.map V.int)))
section
variable {X:Cx}
theorem jQ {e:Expr}{ta:TE}{p p2 pos pos2:Pos}{K:Frag}(hK:X.K=K)(ha:PE X e ta)(hc:X.calm=true)(hgl:Gl X "sorted")(hml:X.mg "sorted"=none)(hgs:Gl X "set")(hms:X.mg "set"=none)(hs:fj e=false:=by rfl):
 PE X (.Call (.Name "sorted" p) [.Call (.Name "set" p2) [e] [] pos2] [] pos) (xk K ta):=by
 subst hK
 intro pins s σ H Q I h
 refine wpAny_Call_Name_kw (dm I hgl hml (by rfl) ?_ (by decide) (by decide))
 refine callWith_builtin1 ?_ (bu rfl) rfl
 rw [bu rfl]
 show wpAny _ _ (spliced ((false,eval (.Call (.Name "set" p2) [e] [] pos2) X.env):: backTo pos (starEach [] X.env))) _ _ s
 refine Calls.spliced_cons ?_
 refine wpAny_Call_Name_kw (dm I hgs hms (by rfl) ?_ (by decide) (by decide))
 refine callWith_type1 (bH (aj ha ae hs pos2 pins s σ H _ I h) fun us s1 ⟨vs,H1,I1,r1,l,ns,hv,hq,hz,q⟩=>?_) (bu hs) rfl
 subst hv
 obtain ⟨u,rfl,ru⟩:=dH r1
 cases (show u=Value.ref l from ru)
 have hd:=I.ok.hd hc
 have fin:∀ (h':Heap)(tk:Nat),St.jb (St.own X.w) h' s1.heap.objs.size (uU ns)->(∀ b o,b < s1.heap.objs.size->s1.heap.get? b=some o->h'.get? b=some o) →
  wpAny (model X.prog X.w) X.A (call (.builtin "sorted") [.ref s1.heap.objs.size]) (EP X pins σ Q) X.xe { s1 with heap:=h',toks:=tk }:=by
  intro h' tk S old
  have I2:Inv X pins σ H1 { s1 with heap:=h',toks:=tk }:=I1.kept (t':=tk) fun b o e=>old b o (Heap.lt_size e) e
  refine St.wJ (s:={ s1 with heap:=h',toks:=tk }) hd S (by have:=rR ns; omega) fun h2 tk2 D out ms c i1 i2 i3 oD fr k2 _=>?_
  have hlen:(ms.map V.int).length≤sizeLine:=by
   rw [List.length_map,i2.length_eq,sizeLine_eq]
   have:=rR ns; omega
  exact ⟨.ref D,_,I2.newObj (t':=tk2) (o:=.lst (ms.map V.int)) k2 fr ⟨hlen,out.toList,c,qD i1,by simpa using oD⟩,rfl,
   q D ms (I2.hnone fr) (Dz i3 (i2.symm.nodup (qX ns))) fun x=>(i2.mem_iff).trans (xy ns x)⟩
 rcases hq with hq | hq
 ·obtain ⟨its,rv,pl,hz2⟩:=I1.list hq
  have e1:=rv.length
  rw [List.length_map] at e1
  refine St.oW (St.xg X.prog X.w its.toArray) hd pl.isList (by simpa using eT rv) (by rw [List.size_toArray]; omega) fun h' tk S old _=>?_
  have es:its.toArray.size=ns.length:=by rw [List.size_toArray]; exact e1.symm
  rw [es] at S
  exact Calls.spliced_nil (fin h' tk S old)
 ·obtain ⟨its,rv,pl,hz2⟩:=I1.tuple hq
  have e1:=rv.length
  rw [List.length_map] at e1
  refine St.oW (St.zQ X.prog X.w its.toArray) hd pl (by simpa using eT rv) (by rw [List.size_toArray]; omega) fun h' tk S old _=>?_
  have es:its.toArray.size=ns.length:=by rw [List.size_toArray]; exact e1.symm
  rw [es] at S
  exact Calls.spliced_nil (fin h' tk S old)
end
def nR (K:Frag):List V->Hp->VK->Prop:=fun xs H Q=>∃ p ys,xs=[.ref p]∧(br K H p ys∨bf K H p ys)∧∀ l,H l=none->Q (.ref l) (upd H l (.lst ys))
def tZ (K:Frag):List V->Hp->VK->Prop:=fun xs H Q=>∃ p ys,xs=[.ref p]∧(br K H p ys∨bf K H p ys)∧Q (.int ys.length) H
section
variable {X:Cx}
theorem uT {K:Frag}(hK:X.K=K):bU X (.type "list") (nR K):=by subst hK; exact cL
theorem vG {K:Frag}(hK:X.K=K):bU X (.builtin "len") (tZ K):=by subst hK; exact a9
variable {tg l:Expr}{tl:TE}
def BL (K:PySem.W.Frag):R2:=fun x y H Q=>∃ p q xs,x = .ref p∧y = .ref q∧br K H p xs∧br K H q []∧Q (.bl (!decide (xs=[]))) H
theorem jt {k:Nat}(hr:Room k X.A):eM X (compareOp .NotEq) (BL X.K):=by
 intro pins s σ H x y v u Q I rx ry h
 obtain ⟨p,q,xs,rfl,rfl,h1,h2,w⟩:=h
 by_cases e:xs=[]
 ·subst e
  refine j7 hr pins s σ H _ _ v u Q I rx ry ⟨.lst [],.lst [],?_,?_,by decide,w⟩
  ·unfold aN; exact ⟨p,[],rfl,h1,by unfold bF; rfl⟩
  ·unfold aN; exact ⟨q,[],rfl,h2,by unfold bF; rfl⟩
 ·cases (show v=Value.ref p from rx)
  cases (show u=Value.ref q from ry)
  obtain ⟨its,r1,p1,_⟩:=I.list h1
  obtain ⟨its2,r2,p2,_⟩:=I.list h2
  cases r2
  have hl:=r1.length
  have hx:xs.length≠0:=fun z=>e (List.eq_nil_of_length_eq_zero z)
  have hs:(its.toArray.size != ([]:List Value).toArray.size)=true:=by
   have:its.toArray.size≠0:=by rw [List.size_toArray]; omega
   simpa using this
  exact SeqAt.RcNeAt.lists_lengths p1.isList p2.isList hs hr.units0 X.prog X.w X.xe _ ⟨.bl true,H,I,rfl,by simpa [e] using w⟩
end
theorem CG {σ:St}{H:Hp}{A B:Hp->Prop}(h:A H):tYes σ H fun b H4=>if b=true then A H4 else B H4:=h
theorem oJ {J:It}{n:Nat}{at_:Nat->V->Prop}{tt:TT}{te:TE}{rest:St}{H:Hp}{F:List V->Hp->Prop}(Pv:Nat->List V->Hp->Prop)(h0:Pv 0 [] H)
 (hz:∀ i ys H',i≤n->Pv i ys H'->ys.length < sizeLine∧(i < n->J.go i H')∧(i=n->J.stop i H')∧∀ x H2,J.yld i H' x H2->H2=H'∧at_ i x)
 (hs:∀ i x ys H' (N:List V->Hp->Prop),i < n->at_ i x->Pv i ys H'->(∀ zs H5,Pv (i + 1) zs H5->N zs H5) →
  tt (some x :: rest) H' fun b H4=>if b=true then te (some x :: rest) H4 fun y H5=>N (ys++[y]) H5 else N ys H4)
 (hd:∀ ys H',Pv n ys H'->F ys H'):
 ∃ W:Nat->Nat->List V->St->Hp->Prop,(∃ m,W 0 m [] (none :: rest) H)∧iR J (bZ 0) tt te W F:=by
 refine ⟨fun i m ys σ H'=>m=n - i∧i≤n∧Pv i ys H'∧∃ o,σ=o :: rest,⟨n,by simp,Nat.zero_le _,h0,none,rfl⟩,?_⟩
 rintro i m ys σ H' ⟨rfl,hi,p,o,rfl⟩
 obtain ⟨z1,z2,z3,z4⟩:=hz i ys H' hi p
 refine ⟨z1,?_⟩
 by_cases hlt:i < n
 ·refine .inr ⟨z2 hlt,fun x H2 hy=>?_⟩
  obtain ⟨rfl,hx⟩:=z4 x H2 hy
  exact hs i x ys H2 (fun zs H5=>∃ m',m' < n - i∧m'=n - (i + 1)∧i + 1≤n∧Pv (i + 1) zs H5∧∃ o',(some x :: rest:St)=o' :: rest) hlt hx p fun zs H5 h=>⟨n - (i + 1),by omega,rfl,hlt,h,_,rfl⟩
 ·have:i=n:=by omega
  subst this
  exact .inl ⟨z3 rfl,hd ys H' p⟩
theorem pA {K:PySem.W.Frag}{a:Addr}{xs:List V}{tt:TT}{te:TE}{rest:St}{H:Hp}{F:List V->Hp->Prop}(Pv:Nat->List V->Hp->Prop)(h0:Pv 0 [] H)
 (hz:∀ i ys H',i≤xs.length->Pv i ys H'->ys.length < sizeLine∧bf K H' a xs)
 (hs:∀ i x ys H' (N:List V->Hp->Prop),i < xs.length->xs[i]?=some x->Pv i ys H'->(∀ zs H5,Pv (i + 1) zs H5->N zs H5) →
  tt (some x :: rest) H' fun b H4=>if b=true then te (some x :: rest) H4 fun y H5=>N (ys++[y]) H5 else N ys H4)
 (hd:∀ ys H',Pv xs.length ys H'->F ys H'):
 ∃ W:Nat->Nat->List V->St->Hp->Prop,(∃ m,W 0 m [] (none :: rest) H)∧iR (EI K a) (bZ 0) tt te W F:=by
 refine oJ (n:=xs.length) (at_:=fun i x=>xs[i]?=some x) Pv h0 (fun i ys H' hi p=>?_) hs hd
 obtain ⟨z1,z2⟩:=hz i ys H' hi p
 exact ⟨z1,fun h=>⟨xs,xs[i],z2,by simp [h]⟩,fun h=>⟨xs,z2,by omega⟩,fun x H2 hy=>⟨hy.1,hy.2 xs z2⟩⟩
theorem oA {lo:Int}{n:Nat}{tt:TT}{te:TE}{rest:St}{H:Hp}{F:List V->Hp->Prop}(Pv:Nat->List V->Hp->Prop)(h0:Pv 0 [] H)
 (hz:∀ i ys H',i≤n->Pv i ys H'->ys.length < sizeLine)
 (hs:∀ i ys H' (N:List V->Hp->Prop),i < n->Pv i ys H'->(∀ zs H5,Pv (i + 1) zs H5->N zs H5) →
  tt (some (.int (lo + i)):: rest) H' fun b H4=>if b=true then te (some (.int (lo + i)):: rest) H4 fun y H5=>N (ys++[y]) H5 else N ys H4)
 (hd:∀ ys H',Pv n ys H'->F ys H'):
 ∃ W:Nat->Nat->List V->St->Hp->Prop,(∃ m,W 0 m [] (none :: rest) H)∧iR (A7 lo n) (bZ 0) tt te W F:=by
 refine oJ (n:=n) (at_:=fun i x=>x = .int (lo + i)) Pv h0 (fun i ys H' hi p=>?_) (fun i x ys H' N h1 h2=>by subst h2; exact hs i ys H' N h1) hd
 exact ⟨hz i ys H' hi p,fun h=>h,fun h=>by show n≤i; omega,fun x H2 hy=>hy⟩
theorem vI {K:PySem.W.Frag}{a:Addr}{xs:List V}{tt:TT}{te:TE}{rest:St}{H:Hp}{F:List V->Hp->Prop}(Pv:Nat->List V->Hp->Prop)(h0:Pv 0 [] H)
 (hz:∀ i ys H',i≤xs.length->Pv i ys H'->ys.length < sizeLine∧br K H' a xs)
 (hs:∀ i x ys H',i < xs.length->xs[i]?=some x->Pv i ys H' →
  ∃ b u v,x = .ref b∧bf K H' b [u,v]∧∀ (N:List V->Hp->Prop),(∀ zs H5,Pv (i + 1) zs H5->N zs H5)->tt (some u :: some v :: rest) H' fun b H4=>if b=true then te (some u :: some v :: rest) H4 fun y H5=>N (ys++[y]) H5 else N ys H4)
 (hd:∀ ys H',Pv xs.length ys H'->F ys H'):
 ∃ W:Nat->Nat->List V->St->Hp->Prop,(∃ m,W 0 m [] (none :: none :: rest) H)∧iR (Ct K a) (nv K 2 (cS (bZ 0) (cS (bZ 1) gNil))) tt te W F:=by
 refine ⟨fun i m ys σ H'=>m=xs.length - i∧i≤xs.length∧Pv i ys H'∧∃ o o2,σ=o :: o2 :: rest,⟨xs.length,by simp,Nat.zero_le _,h0,none,none,rfl⟩,?_⟩
 rintro i m ys σ H' ⟨rfl,hi,p,o,o2,rfl⟩
 obtain ⟨z1,z2⟩:=hz i ys H' hi p
 refine ⟨z1,?_⟩
 by_cases hlt:i < xs.length
 ·refine .inr ⟨⟨xs,xs[i],z2,by simp [hlt]⟩,fun x H2 hy=>?_⟩
  obtain ⟨rfl,hx⟩:=hy
  obtain ⟨b,u,v,rfl,hb,h⟩:=hs i x ys H2 hlt (hx xs z2) p
  exact ⟨_,[u,v],rfl,hb,rfl,_,_,rfl,_,_,rfl,rfl,h (fun zs H5=>∃ m',m' < xs.length - i∧m'=xs.length - (i + 1)∧i + 1≤xs.length∧Pv (i + 1) zs H5∧∃ o o2,(some u :: some v :: rest:St)=o :: o2 :: rest) fun zs H5 h=>⟨xs.length - (i + 1),by omega,rfl,hlt,h,_,_,rfl⟩⟩
 ·have:i=xs.length:=by omega
  subst this
  exact .inl ⟨⟨xs,z2,Nat.le_refl _⟩,hd ys H' p⟩
end L2
namespace K04
open PySem L2 PySem.W Nm Srt
abbrev rW:Stmt:=(bt 47)
structure Tame (H:Hp)(x:V):Prop where
 few:∀ a l z xs,x = .ref a->H a=some (.tup [.ref l,z])->H l=some (.tup xs)->xs.length < 64
 num:∀ a y c t b,x = .ref a->H a=some (.tup [y,.ref c])->H c=some (.tup [.int t,.int b])->B 9000 t∧B 9000 b
def spLIsT:Sp:=fun vs H Q _=>∃ (p:Int)(x:V)(b:Bool),vs=[.int p,x]∧FP p∧TmX p H x b∧Tame H x∧∀ H',aA H H'->Q (.bl b) H'
theorem Bv:FnScope ["_law_prime_here","_law_term"] ["_law_prime_here","_law_term"] (ar rW):=eO (by decide +kernel)
theorem jU {α:Type}{f:α->Bool}{xs:List α}:decide (xs.filter (fun x=>!f x)=[])=xs.all f:=by
 induction xs with
 | nil=>rfl
 | cons x xs ih =>
   cases e:f x with
   | true=>rw [List.filter_cons_of_neg (by rw [e]; decide),ih,List.all_cons,e,Bool.true_and]
   | false=>rw [List.filter_cons_of_pos (by rw [e]; rfl),List.all_cons,e,Bool.false_and]; rfl
theorem BV {xs:List V}(h:xs.all cp=true):∃ ns:List Int,xs=ns.map V.int:=by
 induction xs with
 | nil=>exact ⟨[],rfl⟩
 | cons x xs ih =>
   rw [List.all_cons,Bool.and_eq_true] at h
   obtain ⟨ns,rfl⟩:=ih h.2
   cases x with
   | int n=>exact ⟨n :: ns,rfl⟩
   | _=>cases h.1
theorem DJ {xs:List V}(h:xs.all cp=false):xs.all bg=false:=by
 obtain ⟨x,hx,e⟩:=List.all_eq_false.mp h
 refine List.all_eq_false.mpr ⟨x,hx,?_⟩
 cases x with
 | int n=>exact absurd rfl e
 | _=>exact fun z=>by cases z
theorem iA:∀ ns:List Int,cx (ns.map V.int)=decide (ns.Pairwise (· < ·))
 | []=>rfl
 | [n]=>by simp [cx]
 | n :: m :: ns=>by
   have ih:=iA (m :: ns)
   have e:cx ((n :: m :: ns).map V.int)=(decide (n < m)&&cx ((m :: ns).map V.int)):=by simp [cx,yD]
   rw [e,ih]
   by_cases h:(m :: ns).Pairwise (· < ·)
   ·by_cases g:n < m
    ·have:(n :: m :: ns).Pairwise (· < ·):=List.pairwise_cons.mpr ⟨fun x hx=>by
      rcases List.mem_cons.mp hx with rfl | hx
      ·exact g
      ·exact Int.lt_trans g ((List.pairwise_cons.mp h).1 x hx),h⟩
     rw [decide_eq_true h,decide_eq_true g,decide_eq_true this]; rfl
    ·have:¬ (n :: m :: ns).Pairwise (· < ·):=fun z=>g ((List.pairwise_cons.mp z).1 m List.mem_cons_self)
     rw [decide_eq_false g,decide_eq_false this]; rfl
   ·have:¬ (n :: m :: ns).Pairwise (· < ·):=fun z=>h (List.pairwise_cons.mp z).2
    rw [decide_eq_false h,decide_eq_false this,Bool.and_false]
theorem ib:∀ ns:List Int,dC (ns.map D.int)=0
 | []=>by simp [dC]
 | n :: ns=>by rw [List.map_cons]; unfold dC; rw [ib ns]; simp [i4]
theorem lM:∀ ns ms:List Int,cz (ns.map D.int) (ms.map D.int)=decide (ns=ms)
 | [],[]=>by simp [cz]
 | [],m :: ms=>by simp [cz]
 | n :: ns,[]=>by simp [cz]
 | n :: ns,m :: ms=>by
   have ih:=lM ns ms
   rw [List.map_cons,List.map_cons]
   unfold cz
   rw [ih]
   have e:df (.int n) (.int m)=decide (n=m):=by unfold df; by_cases h:n=m <;> simp [h]
   rw [e]
   by_cases h:n=m
   ·by_cases g:ns=ms <;> simp [h,g]
   ·simp [h]
variable {P:Program}{w:World}{K:PySem.W.Frag}{mg:Str->Option Value}{base:Heap}
theorem y9 {f fw fn:Addr}{fd fdw fdn:FuncData}(F:Fun K "_law_is_term" "_law_is_term" rW f fd)(m_isi:mg "isinstance"=none)(m_tuple:mg "tuple"=none)(m_len:mg "len"=none)(m_list:mg "list"=none)(m_sorted:mg "sorted"=none)(m_set:mg "set"=none)
 (FW:FnOk P w K mg base (bz P w) 1 fw fdw ["_law_thing"] spWhole)(bW:L2.aH K fdw ["_law_thing"] [])(mW:mg "_law_whole"=some (.ref fw))(kW:keepIn K (.ref fw)=true)
 (FN:FnOk P w K mg base (bz P w) 2 fn fdn ["_law_prime_here","_law_thing"] spLIsN)(bN:L2.aH K fdn ["_law_prime_here","_law_thing"] [])(mN:mg "_law_is_number"=some (.ref fn))(kN:keepIn K (.ref fn)=true):
 FnOk P w K mg base (bz P w) 3 f fd ["_law_prime_here","_law_term"] spLIsT:=by
 refine F.okN Bv (fun vs H Q E h=>?_) (fun cdv A outer s H vs Q E hr h=>?_)
 ·obtain ⟨p,x,b,rfl,_⟩:=h
  rfl
 ·obtain ⟨p,x,b,rfl,hp,tx,tm,q⟩:=h
  have hr1:Room 1 _:=hr.mono (by decide)
  refine ⟨_,ao (bJ (PW.pt (cH (cc (cb (az bw (by rfl) m_isi (by rfl) (@aj _ _ _ _ _ (pv 1) (@aj _ _ _ _ _ (cA (by rfl) m_tuple (by rfl) (show aE (.ty "tuple") (.type "tuple") from rfl)) ae rfl) rfl))))
   (cH (@aJ _ _ _ _ _ _ _ _ dI (az a9 (by rfl) m_len PySem.boot_len (@aj _ _ _ _ _ (pv 1) ae rfl)) ai (aI _))
   (de (cc (cb (az bw (by rfl) m_isi (by rfl) (@aj _ _ _ _ _ (@aQ _ _ _ _ _ _ _ aY (pv 1) ai (fun _ _=>rfl)) (@aj _ _ _ _ _ (cA (by rfl) m_tuple (by rfl) (show aE (.ty "tuple") (.type "tuple") from rfl)) ae rfl) rfl)))))))) (av (aD c7)) aO)
   (ao (bJ (PW.pt (cH (@aJ _ _ _ _ _ _ _ _ (jt hr) (dJ (N:=["_law_place"]) (nl:=1) (js:=[]) (osc:=ar rW) ⟨rfl,rfl,by decide +kernel,by decide +kernel,by decide +kernel,rfl,.nil,by decide +kernel⟩ rfl
    (qY (@aQ _ _ _ _ _ _ _ aY (pv 1) ai (fun _ _=>rfl)))
    (fun C fp s H=>aR (i:=0) (by show (["_law_place"]:List Str).Nodup; decide +kernel) rfl (Or.inl rfl) (Or.inr rfl))
    (fun C fp s H=>(fH (cc (cb (aB FW hr1 (by rfl) mW kW bW .nil ah (@aj _ _ _ _ _ (pv 0) ae rfl))))))
    (fun C fp s H=>(pv 0))) (@bM _ _ _ _ ae) (aI _))
    (de (cc (cb (aB FN hr (by rfl) mN kN bN .nil ah (@aj _ _ _ _ _ (pv 0) (@aj _ _ _ _ _ (@aQ _ _ _ _ _ _ _ aY (pv 1) ai (fun _ _=>rfl)) ae rfl) rfl))))))) (av (aD c7)) aO)
   (ao (bJ (@aJ _ _ _ _ _ _ _ _ (j7 hr) (cE cL (by rfl) m_list (by rfl) (@aj _ _ _ _ _ (@aQ _ _ _ _ _ _ _ aY (pv 1) ai (fun _ _=>rfl)) ae rfl)) (jQ rfl (@aQ _ _ _ _ _ _ _ aY (pv 1) ai (fun _ _=>rfl)) rfl (by rfl) m_sorted (by rfl) m_set) (aI _)) (av (aD c7)) aO)
   (av (aD (@cw _ _ _ _ _ _ _ _ (xA hr) (dJ (N:=["_law_place"]) (nl:=1) (js:=[]) (osc:=ar rW) ⟨rfl,rfl,by decide +kernel,by decide +kernel,by decide +kernel,rfl,.nil,by decide +kernel⟩ rfl
    (qY (@aQ _ _ _ _ _ _ _ aY (pv 1) ai (fun _ _=>rfl)))
    (fun C fp s H=>aR (i:=0) (by show (["_law_place"]:List Str).Nodup; decide +kernel) rfl (Or.inl rfl) (Or.inr rfl))
    (fun C fp s H=>(fH (cc (wQ tV iQ ai (pv 0) ai))))
    (fun C fp s H=>(pv 0))) (@bM _ _ _ _ ae) (aI _)))))),?_⟩
  cases tx with
  | @no x T th ne =>
    refine ⟨_,rfl,x,.ty "tuple",_,_,_,rfl,rfl,th.ty,th.isTup,_,rfl,?_⟩
    rw [decide_eq_false ne]
    exact bV (bV (q _ (aA.refl _)))
  | @odd a xs ha hl =>
    refine ⟨_,rfl,.ref a,.ty "tuple",_,_,_,rfl,rfl,.of (.tup ha),rfl,_,rfl,cf ?_⟩
    refine ⟨_,rfl,a,_,rfl,.inr (bf.of ha),rfl,_,rfl,?_⟩
    refine bQ (fun _=>bV (q _ (aA.refl _))) (fun h=>absurd (by simp; omega) h)
  | @two a y z o o2 ha py tz =>
    refine ⟨_,rfl,.ref a,.ty "tuple",_,_,_,rfl,rfl,.of (.tup ha),rfl,_,rfl,cf ?_⟩
    refine ⟨_,rfl,a,_,rfl,.inr (bf.of ha),rfl,_,rfl,?_⟩
    refine bQ (fun h=>absurd h (by simp)) (fun _=>?_)
    cases py with
    | @no y T th ne =>
      refine ⟨_,rfl,a,_,0,_,rfl,rfl,bf.of ha,rfl,y,.ty "tuple",_,_,_,rfl,rfl,th.ty,th.isTup,_,rfl,?_⟩
      rw [decide_eq_false ne]
      exact bV (q _ (aA.refl _))
    | @tup l xs hl hz hth =>
      have few:=tm.few a l z xs rfl ha hl
      refine ⟨_,rfl,a,_,0,_,rfl,rfl,bf.of ha,rfl,.ref l,.ty "tuple",_,_,_,rfl,rfl,.of (.tup hl),rfl,_,rfl,cf ?_⟩
      refine ⟨_,rfl,a,_,0,_,rfl,rfl,bf.of ha,rfl,l,rfl,⟨xs,bf.of hl⟩,?_⟩
      refine pA (xs:=xs) (fun i us H'=>H=H'∧us=(xs.take i).filter fun x=>!cp x) ⟨rfl,rfl⟩ (fun i us H' hi h=>?_) (fun i y us H' N hi hy h k=>?_) (fun us H' h=>?_)
      ·obtain ⟨rfl,rfl⟩:=h
       exact ⟨Nat.lt_of_le_of_lt (List.length_filter_le _ _) (Nat.lt_of_le_of_lt (by simp; omega) (Nat.lt_trans hz (by decide))),bf.of hl⟩
      ·obtain ⟨rfl,rfl⟩:=h
       obtain ⟨T,th⟩:=hth y (List.mem_of_getElem? hy)
       have e2:xs.take (i + 1)=xs.take i++[y]:=by rw [List.take_add_one,hy]; rfl
       refine ⟨_,rfl,y,T,rfl,th,_,rfl,?_⟩
       cases e:cp y with
       | false=>exact bV ⟨_,rfl,k _ _ ⟨rfl,by rw [e2,List.filter_append,List.filter_cons_of_pos (by rw [e]; rfl)]; rfl⟩⟩
       | true=>exact cf (k _ _ ⟨rfl,by rw [e2,List.filter_append,List.filter_cons_of_neg (by rw [e]; decide)]; simp⟩)
      ·obtain ⟨rfl,rfl⟩:=h
       intro L hL
       rw [List.take_length]
       refine ⟨Nat.zero_le _,fun L2 hL2=>?_⟩
       have s2:=ak (o:=.lst []) hL2
       have sA:=(ak (o:=.lst (xs.filter fun x=>!cp x)) hL).trans s2
       refine ⟨L,L2,_,rfl,rfl,br.of (s2 _ _ ag),br.of ag,_,rfl,?_⟩
       rw [jU]
       generalize upd (upd H L _) L2 _=H1 at sA ⊢
       cases hw:xs.all cp with
       | false =>
         have z0:da (some xs)=false:=by show (xs.all bg&&cx xs)=false; rw [DJ hw,Bool.false_and]
         rw [z0,Bool.false_and] at q
         exact bV (bV (q _ sA))
       | true =>
         obtain ⟨ns,rfl⟩:=BV hw
         rw [List.length_map] at few
         refine cf ⟨_,rfl,_,rfl,a,_,1,_,rfl,rfl,bf.of (sA _ _ ha),rfl,p,z,o2,rfl,hp,tz.same sA,?_,fun H2 s2=>⟨_,rfl,?_⟩⟩
         ·intro t b e
          subst e
          cases tz with
          | two hc _ _=>exact tm.num _ _ _ _ _ rfl ha hc
         ·cases hN:gf p o2 with
          | false =>
            rw [hN,Bool.and_false] at q
            exact bV (q _ (sA.trans s2))
          | true =>
            rw [hN,Bool.and_true] at q
            have s3:=sA.trans s2
            refine cf ⟨_,rfl,a,_,0,_,rfl,rfl,bf.of (s3 _ _ ha),rfl,l,_,rfl,.inr (bf.of (s3 _ _ hl)),fun L3 h3=>?_⟩
            have s4:=s3.trans (ak (o:=.lst (ns.map V.int)) h3)
            refine ⟨_,rfl,a,_,0,_,rfl,rfl,bf.of (s4 _ _ ha),rfl,l,ns,rfl,.inr (bf.of (s4 _ _ hl)),few,fun Dd ms hD pw mem=>?_⟩
            have s5:=s4.trans (ak (o:=.lst (ms.map V.int)) hD)
            have eL:upd (upd H2 L3 (.lst (ns.map V.int))) Dd (.lst (ms.map V.int)) L3=some (.lst (ns.map V.int)):=(ak (o:=.lst (ms.map V.int)) hD) _ _ ag
            refine ⟨.lst (ns.map D.int),.lst (ms.map D.int),⟨L3,_,rfl,br.of eL,cV ns⟩,⟨Dd,_,rfl,br.of ag,cV ms⟩,(by unfold i4; rw [ib]; decide),_,rfl,?_⟩
            have e6:df (.lst (ns.map D.int)) (.lst (ms.map D.int))=decide (ns.Pairwise (· < ·)):=by
             have:df (.lst (ns.map D.int)) (.lst (ms.map D.int))=cz (ns.map D.int) (ms.map D.int):=by unfold df; rfl
             rw [this,lM]
             by_cases h:ns.Pairwise (· < ·)
             ·rw [decide_eq_true h,decide_eq_true (tH h pw fun x=>(mem x).symm)]
             ·rw [decide_eq_false h,decide_eq_false (fun z:ns=ms=>h (by rw [z]; exact pw))]
            rw [e6]
            generalize upd (upd H2 L3 _) Dd _=H5 at s5 ⊢
            have z0:da (some (ns.map V.int))=((ns.map V.int).all bg&&decide (ns.Pairwise (· < ·))):=by rw [← iA]; rfl
            rw [z0] at q
            by_cases hp:ns.Pairwise (· < ·)
            ·rw [decide_eq_true hp,Bool.and_true] at q
             rw [decide_eq_true hp]
             refine cf ?_
             refine ⟨_,rfl,a,_,0,_,rfl,rfl,bf.of (s5 _ _ ha),rfl,l,rfl,⟨_,bf.of (s5 _ _ hl)⟩,?_⟩
             refine pA (xs:=ns.map V.int) (fun i us H'=>H5=H'∧us=((ns.map V.int).take i).filter fun x=>!bg x) ⟨rfl,rfl⟩ (fun i us H' hi h=>?_) (fun i y us H' N hi hy h k=>?_) (fun us H' h=>?_)
             ·obtain ⟨rfl,rfl⟩:=h
              exact ⟨Nat.lt_of_le_of_lt (List.length_filter_le _ _) (Nat.lt_of_le_of_lt (by simp; omega) (Nat.lt_trans hz (by decide))),bf.of (s5 _ _ hl)⟩
             ·obtain ⟨rfl,rfl⟩:=h
              obtain ⟨n,_,rfl⟩:=List.mem_map.mp (List.mem_of_getElem? hy)
              have e2:(ns.map V.int).take (i + 1)=(ns.map V.int).take i++[.int n]:=by rw [List.take_add_one,hy]; rfl
              have bad:bg (.int n)=false->(dF 0 (some (.int n):: []) H5 fun y' H6=>N (((ns.map V.int).take i).filter (fun x=>!bg x)++[y']) H6):=fun e=>⟨_,rfl,k _ _ ⟨rfl,by rw [e2,List.filter_append,List.filter_cons_of_pos (by rw [e]; rfl)]; rfl⟩⟩
              have good_:bg (.int n)=true->N (((ns.map V.int).take i).filter fun x=>!bg x) H5:=fun e=>k _ _ ⟨rfl,by rw [e2,List.filter_append,List.filter_cons_of_neg (by rw [e]; decide)]; simp⟩
              refine ⟨_,rfl,_,_,rfl,rfl,_,rfl,?_⟩
              refine bQ (fun h=>?_) (fun h=>?_)
              ·have h':decide (0≤n)=true:=h
               refine ⟨_,_,rfl,rfl,_,rfl,?_⟩
               have e3:bg (.int n)=decide (n < 60):=by show (decide (0≤n)&&decide (n < 60))=_; rw [h',Bool.true_and]
               cases e4:decide (n < 60) with
               | true=>exact cf (good_ (e3.trans e4))
               | false=>exact bV (bad (e3.trans e4))
              ·have h':decide (0≤n)=false:=by simpa using h
               exact ⟨_,rfl,bV (bad (by show (decide (0≤n)&&decide (n < 60))=_; rw [h',Bool.false_and]))⟩
             ·obtain ⟨rfl,rfl⟩:=h
              intro L hL
              rw [List.take_length]
              refine ⟨Nat.zero_le _,fun L2 hL2=>?_⟩
              have s7:=ak (o:=.lst []) hL2
              refine ⟨L,L2,_,rfl,rfl,br.of (s7 _ _ ag),br.of ag,?_⟩
              rw [jU]
              exact q _ ((s5.trans (ak hL)).trans s7)
            ·rw [decide_eq_false hp,Bool.and_false] at q
             rw [decide_eq_false hp]
             exact bV (q _ s5)
end K04
namespace L2
open PySem PySem.Spec PyProof.Rows PySem.W
section
variable {X:Cx}
theorem xu {H:Hp}{p:Addr}{o:HO}(h:H p=none):aA H (upd H p o):=fun b u e=>by rw [aq (au e h)]; exact e
def rCatS:R2:=fun x y H Q=>∃ a b xs ys,x = .ref a∧y = .ref b∧H a=some (.tup xs)∧H b=some (.tup ys)∧xs.length + ys.length≤sizeLine∧∀ p H',aA H H'->H' p=some (.tup (xs++ys))->Q (.ref p) H'
theorem sO:eM X (binaryOp .Add) rCatS:=by
 intro pins s σ H x y v u Q I rx ry h
 obtain ⟨a,b,xs,ys,rfl,rfl,ha,hb,hz,q⟩:=h
 by_cases hx:xs=[]
 ·subst hx
  cases rx
  cases ry
  obtain ⟨its,r1,p1,_⟩:=I.tuple (bf.of ha)
  obtain ⟨its2,r2,p2,_⟩:=I.tuple (bf.of hb)
  cases r1
  obtain ⟨⟨cls,dd,data,sl⟩,ho,hc,n,hd⟩:=id p1
  obtain ⟨⟨cls2,dd2,data2,sl2⟩,ho2,hc2,n2,hd2⟩:=id p2
  simp only at hc hd hc2 hd2
  subst hc hd hc2 hd2
  exact concat_meets ⟨_,ho,rfl⟩ ⟨_,ho2,rfl⟩ noFill_tuple_add seq_tuple_add PySem.F.slot_tuple_add PySem.F.entry_tuple_add (PySem.F.args_tuple_add_2 _ _)
   (tuple_addW0 a b _ its2.toArray n n2 dd dd2 sl sl2 (by simp)) ⟨ho,ho2,.ref b,H,I,rfl,q b H (aA.refl _) hb⟩
 ·exact zR pins s σ H _ _ v u Q I rx ry ⟨a,b,xs,ys,rfl,rfl,bf.of ha,bf.of hb,hx,hz,fun e=>q a H (aA.refl _) (by rw [e,List.append_nil]; exact ha),fun _ p hp=>q p _ (xu hp) ag⟩
end
mutual
def i7 (K:Frag)(H:Hp):PyData->V->Prop
 | .none,v=>v = .non
 | .bool b,v=>v = .bl b
 | .int i,v=>v = .int i
 | .str x,v=>v = .str x
 | .list ds,v=>∃ a xs,v = .ref a∧br K H a xs∧jG K H ds xs
 | .tuple ds,v=>∃ a xs,v = .ref a∧bf K H a xs∧jG K H ds xs
 | .dict kvs,v=>kvs=[]∧∃ a,v = .ref a∧Rd H a (.dK [])
def jG (K:Frag)(H:Hp):List PyData->List V->Prop
 | [],xs=>xs=[]
 | d :: ds,xs=>∃ y ys,xs=y :: ys∧i7 K H d y∧jG K H ds ys
end
def rh (K:Frag):Prop:=∃ o,K.lookup sysModules=some o∧o.cls = .type "dict"
section
variable {X:Cx}{pins:List (Addr × Obj)}{σ:St}{H:Hp}{s:Shared}
theorem zu (I:Inv X pins σ H s)(hS:rh X.K){a:Addr}{o:Obj}(e:s.heap.get? a=some o){T:String}(hc:o.cls = .type T)(hT:T ≠ "dict"):a≠sysModules:=by
 rintro rfl
 obtain ⟨o',l,c⟩:=hS
 have e':=I.kIn _ _ l
 rw [e] at e'
 cases e'
 rw [hc] at c
 injection c with c
 exact hT c
mutual
theorem oh (I:Inv X pins σ H s)(hS:rh X.K):∀ (d:PyData)(v:V)(u:Value),i7 X.K H d v->aE v u->∃ as,Reads s.heap u d as∧sysModules ∉ as
 | .none,v,u,h,r=>by
   unfold i7 at h
   subst h
   cases (show u=Value.none from r)
   exact ⟨_,.none,by simp⟩
 | .bool b,v,u,h,r=>by
   unfold i7 at h
   subst h
   cases (show u=Value.bool b from r)
   exact ⟨_,.bool b,by simp⟩
 | .int i,v,u,h,r=>by
   unfold i7 at h
   subst h
   obtain ⟨t,rfl⟩:=(show ∃ t,u=Value.int i t from r)
   exact ⟨_,.int i t,by simp⟩
 | .str x,v,u,h,r=>by
   unfold i7 at h
   subst h
   obtain ⟨t,rfl⟩:=(show ∃ t,u=Value.str x t from r)
   exact ⟨_,.str x t,by simp⟩
 | .list ds,v,u,h,r=>by
   unfold i7 at h
   obtain ⟨a,xs,rfl,hl,hd⟩:=h
   cases (show u=Value.ref a from r)
   obtain ⟨its,rv,⟨o,n,e,hc,_,hdt⟩,_⟩:=I.list hl
   obtain ⟨as,ra,na⟩:=fk I hS ds xs its hd rv
   exact ⟨_,.list e hc hdt (by simpa using ra),by
    have:=zu I hS e hc (by decide)
    simp only [List.mem_cons,not_or]
    exact ⟨Ne.symm this,na⟩⟩
 | .tuple ds,v,u,h,r=>by
   unfold i7 at h
   obtain ⟨a,xs,rfl,hl,hd⟩:=h
   cases (show u=Value.ref a from r)
   obtain ⟨its,rv,⟨o,e,hc,n,hdt⟩,_⟩:=I.tuple hl
   obtain ⟨as,ra,na⟩:=fk I hS ds xs its hd rv
   exact ⟨_,.tuple e hc hdt (by simpa using ra),na⟩
 | .dict kvs,v,u,h,r=>by
   unfold i7 at h
   obtain ⟨rfl,a,rfl,hl⟩:=h
   cases (show u=Value.ref a from r)
   obtain ⟨_,hne,vs,kv,⟨o,es,ep,e,hx,hdt,_,pr,_⟩⟩:=kF I.hok hl
   have hv:vs=[]:=by cases kv; rfl
   subst hv
   have hes:es.toList=[]:=by
    cases hq:es.toList with
    | nil=>rfl
    | cons x l=>rw [hq] at pr; cases pr
   refine ⟨[a]++[]++[],.dict e hx.1 hdt (by rw [hes]; exact .nil) (by rw [hes]; exact .nil),?_⟩
   simp only [List.append_nil,List.mem_singleton]
   intro q
   rw [q] at hne
   simp at hne
theorem fk (I:Inv X pins σ H s)(hS:rh X.K):∀ (ds:List PyData)(vs:List V)(us:List Value),jG X.K H ds vs->aG vs us->∃ as,ReadsAll s.heap us ds as∧sysModules ∉ as
 | [],vs,us,h,r=>by
   unfold jG at h
   subst h
   cases r
   exact ⟨_,.nil,by simp⟩
 | d :: ds,vs,us,h,r=>by
   unfold jG at h
   obtain ⟨y,ys,rfl,h1,h2⟩:=h
   cases r with
   | cons r1 r2 =>
     obtain ⟨as,ra,na⟩:=oh I hS d y _ h1 r1
     obtain ⟨bs,rb,nb⟩:=fk I hS ds ys _ h2 r2
     exact ⟨_,.cons ra rb,by simp only [List.mem_append,not_or]; exact ⟨na,nb⟩⟩
end
theorem qS {k:Nat}(hr:Room k X.A)(hS:rh X.K):bU X (.builtin "repr") (fun xs H Q=>∃ a d,xs=[.ref a]∧i7 X.K H d (.ref a)∧d.showable=true∧d.depth≤60∧d.shown.length≤sizeLine∧Q (.str d.shown) H):=by
 intro pins s σ H vs us Q I r h
 obtain ⟨a,d,rfl,hd,hs,hdp,hz,q⟩:=h
 obtain ⟨u,rfl,ru⟩:=dH r
 cases (show u=Value.ref a from ru)
 obtain ⟨as,ra,na⟩:=oh I hS d _ _ hd (show aE (.ref a) (Value.ref a) from rfl)
 refine repr_of_reads' ra hs (fun _=>na) hr.gd (by have:=hr.units; omega) (fun _ _ e=>e) (fun h' u tk hk=>?_) hz
 exact ⟨.str d.shown,H,I.kept (t':=tk) hk,⟨u,rfl⟩,q⟩
end
mutual
def wt:PyData->Nat
 | .none=>4
 | .bool _=>5
 | .int _=>1921
 | .str x=>(reprText x).length
 | .list xs=>vM xs + 2
 | .tuple xs=>vM xs + 3
 | .dict _=>2
def vM:List PyData->Nat
 | []=>0
 | x :: xs=>wt x + 2 + vM xs
end
theorem iX:∀ (ts:List Str)(k:Nat)(acc:Str),(textFrom k acc ts).length≤acc.length + (ts.map fun t=>t.length + 2).sum
 | [],k,acc=>by simp [textFrom]
 | t :: ts,k,acc=>by
   unfold textFrom
   have h:=iX ts (k + 1) (acc++(if k > 0 then ", " else "":String)++t)
   have e:(acc++((if k > 0 then ", " else "":String):Str)++t).length≤acc.length + 2 + t.length:=by
    rw [Str.length_append,Str.length_append]
    have:(((if k > 0 then ", " else "":String):Str)).length≤2:=by
     split
     ·decide
     ·decide
    omega
   simp only [List.map_cons,List.sum_cons]
   omega
theorem r0:∀ (ts:List Str),(Str.join ", " ts).length≤(ts.map fun t=>t.length + 2).sum
 | []=>by
   show (Str.empty).length≤_
   simp [Str.empty,Str.length]
 | [t]=>by
   show t.length≤_
   simp
 | t :: u :: ts=>by
   show (t++(", ":String)++Str.join ", " (u :: ts)).length≤_
   rw [Str.length_append,Str.length_append]
   have h:=r0 (u :: ts)
   have e:(((", ":String):Str)).length=2:=by decide
   simp only [List.map_cons,List.sum_cons] at h ⊢
   omega
mutual
theorem oZ:∀ (d:PyData)(K:Frag)(H:Hp)(v:V),i7 K H d v->d.showable=true->d.shown.length≤wt d
 | .none,_,_,_,_,_=>by unfold PyData.shown wt; decide
 | .bool b,_,_,_,_,_=>by unfold PyData.shown wt; cases b <;> decide
 | .int i,_,_,_,_,h=>by
   unfold PyData.showable at h
   unfold PyData.shown wt
   exact int_text_len_1921 (of_decide_eq_true h)
 | .str x,_,_,_,_,_=>by unfold PyData.shown wt; exact Nat.le_refl _
 | .list xs,K,H,v,r,h=>by
   unfold i7 at r
   obtain ⟨a,vs,_,_,r⟩:=r
   unfold PyData.showable at h
   unfold PyData.shown wt listText
   have e:=iX (PyData.shownAll xs) 0 (("[":String):Str)
   have f:=fu xs K H vs r h
   rw [Str.length_append]
   have l1:((("[":String):Str)).length=1:=by decide
   have l2:((("]":String):Str)).length=1:=by decide
   omega
 | .tuple xs,K,H,v,r,h=>by
   unfold i7 at r
   obtain ⟨a,vs,_,_,r⟩:=r
   unfold PyData.showable at h
   unfold PyData.shown wt tupleText
   have e:=r0 (PyData.shownAll xs)
   have f:=fu xs K H vs r h
   rw [Str.length_append,Str.length_append]
   have l1:((("(":String):Str)).length=1:=by decide
   have l2:((((if (PyData.shownAll xs).length == 1 then ",)" else ")":String)):Str)).length≤2:=by
    split
    ·decide
    ·decide
   omega
 | .dict kvs,K,H,v,r,h=>by
   unfold i7 at r
   obtain ⟨rfl,_⟩:=r
   unfold PyData.shown wt
   decide
theorem fu:∀ (ds:List PyData)(K:Frag)(H:Hp)(vs:List V),jG K H ds vs->PyData.showableAll ds=true->((PyData.shownAll ds).map fun t=>t.length + 2).sum≤vM ds
 | [],_,_,_,_,_=>by unfold PyData.shownAll vM; simp
 | d :: ds,K,H,vs,r,h=>by
   unfold jG at r
   obtain ⟨y,ys,_,r1,r2⟩:=r
   unfold PyData.showableAll at h
   rw [Bool.and_eq_true] at h
   unfold PyData.shownAll vM
   have a:=oZ d K H y r1 h.1
   have b:=fu ds K H ys r2 h.2
   simp only [List.map_cons,List.sum_cons]
   omega
end
theorem jO {X:Cx}{k:Nat}(hr:Room k X.A)(hS:rh X.K):bU X (.builtin "repr") (fun xs H Q=>∃ a d,xs=[.ref a]∧i7 X.K H d (.ref a)∧d.showable=true∧d.depth≤60∧wt d≤16777216∧Q (.str d.shown) H):=by
 intro pins s σ H vs us Q I r h
 obtain ⟨a,d,e,hd,hs,hdp,hz,q⟩:=h
 exact qS hr hS pins s σ H vs us Q I r ⟨a,d,e,hd,hs,hdp,by rw [sizeLine_eq]; exact Nat.le_trans (oZ d _ _ _ hd hs) hz,q⟩
end L2
namespace K04
open PySem L2 PySem.W Nm Srt
mutual
def Dt (F:Addr->Prop)(H:Hp):PyData->V->Prop
 | .none,v=>v = .non
 | .bool b,v=>v = .bl b
 | .int i,v=>v = .int i
 | .str x,v=>v = .str x
 | .list ds,v=>∃ a xs,v = .ref a∧F a∧H a=some (.lst xs)∧ba F H ds xs
 | .tuple ds,v=>∃ a xs,v = .ref a∧H a=some (.tup xs)∧ba F H ds xs
 | .dict kvs,v=>kvs=[]∧∃ a,v = .ref a∧H a=some (.dK [])
def ba (F:Addr->Prop)(H:Hp):List PyData->List V->Prop
 | [],xs=>xs=[]
 | d :: ds,xs=>∃ y ys,xs=y :: ys∧Dt F H d y∧ba F H ds ys
end
def aM (F:Addr->Prop)(H H':Hp):Prop:=∀ b o,H b=some o->(∀ l,o = .lst l->F b)->H' b=some o
theorem aM.of {F:Addr->Prop}{H H':Hp}(s:aA H H'):aM F H H':=fun b o e _=>s b o e
theorem aM.but {H H':Hp}{r:Addr}(R:aU H r)(s:SameBut r H H'):aM (·≠r) H H':=fun b o e k=>s b o e fun z=>by
 obtain ⟨l,x,h,_⟩:=R
 rw [z,h] at e
 exact k _ (Option.some.inj e).symm z
theorem aM.trans {F:Addr->Prop}{H H1 H2:Hp}(a:aM F H H1)(b:aM F H1 H2):aM F H H2:=fun c o e k=>b c o (a c o e k) k
theorem aM.mono {F G:Addr->Prop}{H H':Hp}(k:aM F H H')(h:∀ a,G a->F a):aM G H H':=fun b o e g=>k b o e fun l z=>h _ (g l z)
theorem aM.put {F:Addr->Prop}{H:Hp}{a:Addr}{xs ys:List V}(e:H a=some (.lst xs))(n:¬ F a):aM F H (upd H a (.lst ys)):=fun b o h k=>by
 by_cases z:b=a
 ·subst z
  rw [e] at h
  exact absurd (k _ (Option.some.inj h).symm) n
 ·rw [aq z]; exact h
theorem aM.tup {F:Addr->Prop}{H H':Hp}(k:aM F H H'):aF H H':=fun b xs e=>k b _ e fun l z=>by cases z
theorem aM.ins {F:Addr->Prop}{H H':Hp}(k:aM F H H'){a C dx:Addr}{fs:List (Str × V)}(e:H a=some (.ins C dx fs)):H' a=some (.ins C dx fs):=k a _ e fun l z=>by cases z
theorem aM.lst {F:Addr->Prop}{H H':Hp}(k:aM F H H'){a:Addr}{xs:List V}(n:F a)(e:H a=some (.lst xs)):H' a=some (.lst xs):=k a _ e fun _ _=>n
mutual
theorem Dt.keep {F:Addr->Prop}{H H':Hp}(k:aM F H H'):∀ (d:PyData)(v:V),Dt F H d v->Dt F H' d v
 | .none,v,h=>by unfold Dt at h ⊢; exact h
 | .bool b,v,h=>by unfold Dt at h ⊢; exact h
 | .int i,v,h=>by unfold Dt at h ⊢; exact h
 | .str x,v,h=>by unfold Dt at h ⊢; exact h
 | .list ds,v,h=>by
   unfold Dt at h ⊢
   obtain ⟨a,xs,e,n,ha,hd⟩:=h
   exact ⟨a,xs,e,n,k.lst n ha,ba.keep k ds xs hd⟩
 | .tuple ds,v,h=>by
   unfold Dt at h ⊢
   obtain ⟨a,xs,e,ha,hd⟩:=h
   exact ⟨a,xs,e,k.tup _ _ ha,ba.keep k ds xs hd⟩
 | .dict kvs,v,h=>by
   unfold Dt at h ⊢
   obtain ⟨e1,a,e,ha⟩:=h
   exact ⟨e1,a,e,k _ _ ha fun l z=>by cases z⟩
theorem ba.keep {F:Addr->Prop}{H H':Hp}(k:aM F H H'):∀ (ds:List PyData)(xs:List V),ba F H ds xs->ba F H' ds xs
 | [],xs,h=>by unfold ba at h ⊢; exact h
 | d :: ds,xs,h=>by
   unfold ba at h ⊢
   obtain ⟨y,ys,e,h1,h2⟩:=h
   exact ⟨y,ys,e,Dt.keep k d y h1,ba.keep k ds ys h2⟩
end
mutual
theorem Dt.mono {F G:Addr->Prop}{H:Hp}(k:∀ a,F a->G a):∀ (d:PyData)(v:V),Dt F H d v->Dt G H d v
 | .none,v,h=>by unfold Dt at h ⊢; exact h
 | .bool b,v,h=>by unfold Dt at h ⊢; exact h
 | .int i,v,h=>by unfold Dt at h ⊢; exact h
 | .str x,v,h=>by unfold Dt at h ⊢; exact h
 | .list ds,v,h=>by
   unfold Dt at h ⊢
   obtain ⟨a,xs,e,n,ha,hd⟩:=h
   exact ⟨a,xs,e,k _ n,ha,ba.mono k ds xs hd⟩
 | .tuple ds,v,h=>by
   unfold Dt at h ⊢
   obtain ⟨a,xs,e,ha,hd⟩:=h
   exact ⟨a,xs,e,ha,ba.mono k ds xs hd⟩
 | .dict kvs,v,h=>by
   unfold Dt at h ⊢
   exact h
theorem ba.mono {F G:Addr->Prop}{H:Hp}(k:∀ a,F a->G a):∀ (ds:List PyData)(xs:List V),ba F H ds xs->ba G H ds xs
 | [],xs,h=>by unfold ba at h ⊢; exact h
 | d :: ds,xs,h=>by
   unfold ba at h ⊢
   obtain ⟨y,ys,e,h1,h2⟩:=h
   exact ⟨y,ys,e,Dt.mono k d y h1,ba.mono k ds ys h2⟩
end
mutual
theorem Dt.rd {F:Addr->Prop}{K:Frag}{H:Hp}:∀ (d:PyData)(v:V),Dt F H d v->i7 K H d v
 | .none,v,h=>by unfold Dt at h; unfold i7; exact h
 | .bool b,v,h=>by unfold Dt at h; unfold i7; exact h
 | .int i,v,h=>by unfold Dt at h; unfold i7; exact h
 | .str x,v,h=>by unfold Dt at h; unfold i7; exact h
 | .list ds,v,h=>by
   unfold Dt at h; unfold i7
   obtain ⟨a,xs,e,n,ha,hd⟩:=h
   exact ⟨a,xs,e,br.of ha,ba.rd ds xs hd⟩
 | .tuple ds,v,h=>by
   unfold Dt at h; unfold i7
   obtain ⟨a,xs,e,ha,hd⟩:=h
   exact ⟨a,xs,e,bf.of ha,ba.rd ds xs hd⟩
 | .dict kvs,v,h=>by
   unfold Dt at h; unfold i7
   obtain ⟨e1,a,e,ha⟩:=h
   exact ⟨e1,a,e,Rd.of ha⟩
theorem ba.rd {F:Addr->Prop}{K:Frag}{H:Hp}:∀ (ds:List PyData)(xs:List V),ba F H ds xs->jG K H ds xs
 | [],xs,h=>by unfold ba at h; unfold jG; exact h
 | d :: ds,xs,h=>by
   unfold ba at h; unfold jG
   obtain ⟨y,ys,e,h1,h2⟩:=h
   exact ⟨y,ys,e,Dt.rd d y h1,ba.rd ds ys h2⟩
end
theorem Dt.th {F:Addr->Prop}{H:Hp}{d:PyData}{v:V}(h:Dt F H d v):∃ T,Th H v T:=by
 cases d with
 | none=>unfold Dt at h; subst h; exact ⟨_,.non⟩
 | bool b=>unfold Dt at h; subst h; exact ⟨_,.bl b⟩
 | int i=>unfold Dt at h; subst h; exact ⟨_,.int i⟩
 | str x=>unfold Dt at h; subst h; exact ⟨_,.str x⟩
 | list ds=>unfold Dt at h; obtain ⟨a,xs,rfl,n,ha,hd⟩:=h; exact ⟨_,.lst ha⟩
 | tuple ds=>unfold Dt at h; obtain ⟨a,xs,rfl,ha,hd⟩:=h; exact ⟨_,.tup ha⟩
 | dict kvs=>unfold Dt at h; obtain ⟨_,a,rfl,ha⟩:=h; exact ⟨_,.dK ha⟩
theorem ba.th {F:Addr->Prop}{H:Hp}:∀ {ds:List PyData}{xs:List V},ba F H ds xs->∀ y∈xs,∃ T,Th H y T
 | [],xs,h,y,hy=>by unfold ba at h; subst h; cases hy
 | d :: ds,xs,h,y,hy=>by
   unfold ba at h
   obtain ⟨z,zs,rfl,h1,h2⟩:=h
   rcases List.mem_cons.mp hy with rfl | hy
   ·exact h1.th
   ·exact ba.th h2 y hy
theorem ba.len {F:Addr->Prop}{H:Hp}:∀ {ds:List PyData}{xs:List V},ba F H ds xs->xs.length=ds.length
 | [],xs,h=>by unfold ba at h; subst h; rfl
 | d :: ds,xs,h=>by
   unfold ba at h
   obtain ⟨z,zs,rfl,h1,h2⟩:=h
   rw [List.length_cons,List.length_cons,ba.len h2]
theorem ba.append {F:Addr->Prop}{H:Hp}:∀ {ds es:List PyData}{xs ys:List V},ba F H ds xs->ba F H es ys->ba F H (ds++es) (xs++ys)
 | [],es,xs,ys,h,k=>by unfold ba at h; subst h; exact k
 | d :: ds,es,xs,ys,h,k=>by
   unfold ba at h
   obtain ⟨z,zs,rfl,h1,h2⟩:=h
   show ba F H (d :: (ds++es)) (z :: (zs++ys))
   unfold ba
   exact ⟨z,_,rfl,h1,ba.append h2 k⟩
theorem ba.nil {F:Addr->Prop}{H:Hp}:ba F H [] []:=by unfold ba; rfl
theorem ba.cons {F:Addr->Prop}{H:Hp}{d:PyData}{ds:List PyData}{v:V}{vs:List V}(h:Dt F H d v)(k:ba F H ds vs):ba F H (d :: ds) (v :: vs):=by
 unfold ba
 exact ⟨v,vs,rfl,h,k⟩
theorem ba.one {F:Addr->Prop}{H:Hp}{d:PyData}{v:V}(h:Dt F H d v):ba F H [d] [v]:=.cons h .nil
theorem ba.at {F:Addr->Prop}{H:Hp}:∀ {ds:List PyData}{xs:List V},ba F H ds xs->∀ {i:Nat}{x:V},xs[i]?=some x->∃ d,ds[i]?=some d∧Dt F H d x
 | [],xs,h,i,x,e=>by unfold ba at h; subst h; cases e
 | d :: ds,xs,h,i,x,e=>by
   unfold ba at h
   obtain ⟨z,zs,rfl,h1,h2⟩:=h
   cases i with
   | zero=>cases e; exact ⟨d,rfl,h1⟩
   | succ i=>exact ba.at h2 e
theorem ba.set {F:Addr->Prop}{H:Hp}{e:PyData}{y:V}(he:Dt F H e y):∀ {ds:List PyData}{xs:List V},ba F H ds xs->∀ i:Nat,ba F H (ds.set i e) (xs.set i y)
 | [],xs,h,i=>by unfold ba at h; subst h; exact .nil
 | d :: ds,xs,h,i=>by
   unfold ba at h
   obtain ⟨z,zs,rfl,h1,h2⟩:=h
   cases i with
   | zero=>exact .cons he h2
   | succ i=>exact .cons h1 (ba.set he h2 i)
theorem hX {F:Addr->Prop}{H:Hp}(i:Int):Dt F H (.int i) (.int i):=by unfold Dt; rfl
theorem D5 {F:Addr->Prop}{H:Hp}:Dt F H .none .non:=by unfold Dt; rfl
theorem EV {F:Addr->Prop}{H:Hp}(b:Bool):Dt F H (.bool b) (.bl b):=by unfold Dt; rfl
theorem ER {F:Addr->Prop}{H:Hp}(x:Str):Dt F H (.str x) (.str x):=by unfold Dt; rfl
theorem AI {F:Addr->Prop}{a:Addr}{H:Hp}{xs:List V}{ds:List PyData}(e:H a=some (.tup xs))(h:ba F H ds xs):Dt F H (.tuple ds) (.ref a):=by unfold Dt; exact ⟨a,xs,rfl,e,h⟩
theorem E5 {F:Addr->Prop}{a:Addr}{H:Hp}{xs:List V}{ds:List PyData}(n:F a)(e:H a=some (.lst xs))(h:ba F H ds xs):Dt F H (.list ds) (.ref a):=by unfold Dt; exact ⟨a,xs,rfl,n,e,h⟩
theorem eQ {F:Addr->Prop}{H:Hp}:∀ ns:List Int,ba F H (ns.map PyData.int) (ns.map V.int)
 | []=>.nil
 | n :: ns=>.cons (hX n) (eQ ns)
theorem pJ:∀ ns:List Int,vM (ns.map PyData.int)=1923 * ns.length
 | []=>rfl
 | n :: ns=>by
   show vM (.int n :: ns.map PyData.int)=_
   unfold vM
   rw [pJ ns]
   simp [wt]
   omega
def iZ (n:Int):Prop:=-(2 ^ 60) < n∧n < 2 ^ 60
theorem iZ.of {n:Int}(h:B 60 n):iZ n:=by
 have h':n.natAbs < 2 ^ 60:=h
 unfold iZ
 omega
theorem wG {n:Int}(h:iZ n):PyData.showable (.int n)=true:=by
 unfold PyData.showable
 refine decide_eq_true ?_
 obtain ⟨h1,h2⟩:=h
 by_cases z:n.natAbs=0
 ·rw [z]; decide
 ·exact Nat.lt_trans ((Nat.log2_lt z).mpr (by omega:n.natAbs < 2 ^ 60)) (by decide)
theorem tw:∀ {ns:List Int},(∀ n∈ns,iZ n)->PyData.showableAll (ns.map PyData.int)=true
 | [],_=>rfl
 | n :: ns,h=>by
   show PyData.showableAll (.int n :: ns.map PyData.int)=true
   unfold PyData.showableAll
   rw [wG (h n List.mem_cons_self),tw fun m hm=>h m (List.mem_cons_of_mem _ hm)]
   rfl
theorem rQ:∀ ns:List Int,PyData.depthAll (ns.map PyData.int)=0
 | []=>rfl
 | n :: ns=>by
   show PyData.depthAll (.int n :: ns.map PyData.int)=0
   unfold PyData.depthAll
   rw [rQ ns]
   rfl
def So (k m:Nat)(d:PyData):Prop:=d.showable=true∧d.depth≤k∧wt d≤m
def aV (k m:Nat)(ds:List PyData):Prop:=PyData.showableAll ds=true∧PyData.depthAll ds≤k∧vM ds≤m
theorem So.mono {k l m n:Nat}{d:PyData}(h:So k m d)(h1:k≤l)(h2:m≤n):So l n d:=⟨h.1,by have:=h.2.1; omega,by have:=h.2.2; omega⟩
theorem aV.nil {k m:Nat}:aV k m []:=⟨rfl,by unfold PyData.depthAll; omega,by unfold vM; omega⟩
theorem aV.cons {k m n l:Nat}{d:PyData}{ds:List PyData}(h:So k m d)(t:aV k n ds)(hl:m + 2 + n≤l):aV k l (d :: ds):=by
 obtain ⟨a,b,c⟩:=h
 obtain ⟨a',b',c'⟩:=t
 refine ⟨?_,?_,?_⟩
 ·rw [PyData.showableAll,a,a']; rfl
 ·rw [PyData.depthAll]; omega
 ·rw [vM]; omega
theorem aV.tup {k m:Nat}{ds:List PyData}(h:aV k m ds):So (k + 1) (m + 3) (.tuple ds):=⟨by unfold PyData.showable; exact h.1,by have:=h.2.1; unfold PyData.depth; omega,by have:=h.2.2; unfold wt; omega⟩
theorem aV.lst {k m:Nat}{ds:List PyData}(h:aV k m ds):So (k + 1) (m + 3) (.list ds):=⟨by unfold PyData.showable; exact h.1,by have:=h.2.1; unfold PyData.depth; omega,by have:=h.2.2; unfold wt; omega⟩
theorem rp {k:Nat}{n:Int}(h:iZ n):So k 1921 (.int n):=⟨wG h,by unfold PyData.depth; omega,by unfold wt; omega⟩
theorem DW {k:Nat}:So k 1921 .none:=⟨rfl,by unfold PyData.depth; omega,by unfold wt; omega⟩
theorem EW {k:Nat}(b:Bool):So k 1921 (.bool b):=⟨rfl,by unfold PyData.depth; omega,by unfold wt; omega⟩
theorem Fm:PyData.depth (.dict [])≤1:=by decide +kernel
theorem Fi {k:Nat}:So (k + 1) 1921 (.dict []):=⟨rfl,by have:=Fm; omega,by unfold wt; omega⟩
theorem gP {k:Nat}{ns:List Int}(h:∀ n∈ns,iZ n):aV k (1923 * ns.length) (ns.map PyData.int):=⟨tw h,by rw [rQ]; omega,by rw [pJ]; omega⟩
theorem sR {k m:Nat}:∀ {ds:List PyData},(∀ d∈ds,So k m d)->aV k ((m + 2) * ds.length) ds
 | [],_=>.nil
 | d :: ds,h=>aV.cons (h d List.mem_cons_self) (sR fun e he=>h e (List.mem_cons_of_mem _ he)) (by rw [List.length_cons,Nat.mul_add]; omega)
def vi:PyData->V
 | .int i=>.int i
 | _=>.non
def Cu:PyData->Option (List V)
 | .tuple ds=>some (ds.map vi)
 | _=>none
def Cs:PyData->Option (V × V)
 | .tuple [y,z]=>some (vi y,vi z)
 | _=>none
def j8 (p:Int):PyData->Bool
 | .tuple [y,z]=>da (Cu y)&&gf p (Cs z)
 | _=>false
def i5 (d:PyData):Prop:=∀ y z,d = .tuple [y,z]->(∀ ds,y = .tuple ds->ds.length < 64)∧∀ t b,z = .tuple [.int t,.int b]->B 60 t∧B 60 b
theorem Dt.place {F:Addr->Prop}{H:Hp}{d:PyData}{v:V}(h:Dt F H d v):bg v=bg (vi d):=by
 cases d with
 | none=>unfold Dt at h; subst h; rfl
 | bool b=>unfold Dt at h; subst h; rfl
 | int i=>unfold Dt at h; subst h; rfl
 | str x=>unfold Dt at h; subst h; rfl
 | list ds=>unfold Dt at h; obtain ⟨a,xs,rfl,n,ha,hd⟩:=h; rfl
 | tuple ds=>unfold Dt at h; obtain ⟨a,xs,rfl,ha,hd⟩:=h; rfl
 | dict kvs=>unfold Dt at h; obtain ⟨_,a,rfl,ha⟩:=h; rfl
theorem Dt.isInt {F:Addr->Prop}{H:Hp}{d:PyData}{v:V}(h:Dt F H d v):(∃ i,d = .int i∧v = .int i)∨(vi d = .non∧∀ i,v ≠ .int i):=by
 cases d with
 | none=>unfold Dt at h; subst h; exact .inr ⟨rfl,fun i z=>by cases z⟩
 | bool b=>unfold Dt at h; subst h; exact .inr ⟨rfl,fun i z=>by cases z⟩
 | int i=>unfold Dt at h; subst h; exact .inl ⟨i,rfl,rfl⟩
 | str x=>unfold Dt at h; subst h; exact .inr ⟨rfl,fun i z=>by cases z⟩
 | list ds=>unfold Dt at h; obtain ⟨a,xs,rfl,n,ha,hd⟩:=h; exact .inr ⟨rfl,fun i z=>by cases z⟩
 | tuple ds=>unfold Dt at h; obtain ⟨a,xs,rfl,ha,hd⟩:=h; exact .inr ⟨rfl,fun i z=>by cases z⟩
 | dict kvs=>unfold Dt at h; obtain ⟨_,a,rfl,ha⟩:=h; exact .inr ⟨rfl,fun i z=>by cases z⟩
theorem Dk {x y:V}(h:∀ i,x ≠ .int i):yD x y=false:=by
 cases x with
 | int i=>exact absurd rfl (h i)
 | _=>rfl
theorem Do {x y:V}(h:∀ i,y ≠ .int i):yD x y=false:=by
 cases y with
 | int i=>exact absurd rfl (h i)
 | _=>cases x <;> rfl
theorem Dt.lt {F:Addr->Prop}{H:Hp}{d e:PyData}{v u:V}(h:Dt F H d v)(k:Dt F H e u):yD v u=yD (vi d) (vi e):=by
 rcases h.isInt with ⟨i,rfl,rfl⟩ | ⟨e1,n1⟩
 ·rcases k.isInt with ⟨j,rfl,rfl⟩ | ⟨e2,n2⟩
  ·rfl
  ·rw [Do n2,e2]; rfl
 ·rw [Dk n1,e1]; rfl
theorem ba.places {F:Addr->Prop}{H:Hp}:∀ {ds:List PyData}{xs:List V},ba F H ds xs->xs.all bg=(ds.map vi).all bg
 | [],xs,h=>by unfold ba at h; subst h; rfl
 | d :: ds,xs,h=>by
   unfold ba at h
   obtain ⟨y,ys,rfl,h1,h2⟩:=h
   rw [List.map_cons,List.all_cons,List.all_cons,h1.place,ba.places h2]
theorem kq (x y:V)(l:List V):cx (x :: y :: l)=(yD x y&&cx (y :: l)):=by simp [cx]
theorem ba.rises {F:Addr->Prop}{H:Hp}:∀ {ds:List PyData}{xs:List V},ba F H ds xs->cx xs=cx (ds.map vi)
 | [],xs,h=>by unfold ba at h; subst h; rfl
 | [d],xs,h=>by
   unfold ba at h
   obtain ⟨y,ys,rfl,h1,h2⟩:=h
   unfold ba at h2
   subst h2
   simp [cx]
 | d :: e :: ds,xs,h=>by
   unfold ba at h
   obtain ⟨y,ys,rfl,h1,h2⟩:=h
   have ih:=ba.rises h2
   unfold ba at h2
   obtain ⟨z,zs,rfl,h2,h3⟩:=h2
   show _=cx (vi d :: vi e :: ds.map vi)
   rw [kq,ih,h1.lt h2,kq]
   rfl
theorem Dt.px {F:Addr->Prop}{H:Hp}{d:PyData}{v:V}(h:Dt F H d v)(hl:∀ ds,d = .tuple ds->ds.length < 4000):∃ o,PX H v o∧da o=da (Cu d):=by
 cases d with
 | none=>unfold Dt at h; subst h; exact ⟨_,.no .non (by decide),rfl⟩
 | bool b=>unfold Dt at h; subst h; exact ⟨_,.no (.bl b) (by decide),rfl⟩
 | int i=>unfold Dt at h; subst h; exact ⟨_,.no (.int i) (by decide),rfl⟩
 | str x=>unfold Dt at h; subst h; exact ⟨_,.no (.str x) (by decide),rfl⟩
 | list ds=>unfold Dt at h; obtain ⟨a,xs,rfl,n,ha,hd⟩:=h; exact ⟨_,.no (.lst ha) (by decide),rfl⟩
 | tuple ds =>
   unfold Dt at h
   obtain ⟨a,xs,rfl,ha,hd⟩:=h
   refine ⟨_,.tup ha (by rw [hd.len]; exact hl ds rfl) hd.th,?_⟩
   show (xs.all bg&&cx xs)=((ds.map vi).all bg&&cx (ds.map vi))
   rw [hd.places,hd.rises]
 | dict kvs=>unfold Dt at h; obtain ⟨_,a,rfl,ha⟩:=h; exact ⟨_,.no (.dK ha) (by decide),rfl⟩
theorem Dq {p:Int}{x y:V}(h:∀ i,x ≠ .int i):gf p (some (x,y))=false:=by
 cases x with
 | int i=>exact absurd rfl (h i)
 | _=>rfl
theorem DG {p:Int}{x y:V}(h:∀ i,y ≠ .int i):gf p (some (x,y))=false:=by
 cases y with
 | int i=>exact absurd rfl (h i)
 | _=>cases x <;> rfl
theorem Dt.tx {p:Int}{F:Addr->Prop}{H:Hp}{d:PyData}{v:V}(h:Dt F H d v):∃ o,TX H v o∧gf p o=gf p (Cs d):=by
 cases d with
 | none=>unfold Dt at h; subst h; exact ⟨_,.no .non (by decide),rfl⟩
 | bool b=>unfold Dt at h; subst h; exact ⟨_,.no (.bl b) (by decide),rfl⟩
 | int i=>unfold Dt at h; subst h; exact ⟨_,.no (.int i) (by decide),rfl⟩
 | str x=>unfold Dt at h; subst h; exact ⟨_,.no (.str x) (by decide),rfl⟩
 | list ds=>unfold Dt at h; obtain ⟨a,xs,rfl,n,ha,hd⟩:=h; exact ⟨_,.no (.lst ha) (by decide),rfl⟩
 | dict kvs=>unfold Dt at h; obtain ⟨_,a,rfl,ha⟩:=h; exact ⟨_,.no (.dK ha) (by decide),rfl⟩
 | tuple ds =>
   unfold Dt at h
   obtain ⟨a,xs,rfl,ha,hd⟩:=h
   have hl:=hd.len
   match ds,hd with
   | [],_=>exact ⟨_,.odd ha (by rw [hl]; decide),rfl⟩
   | [_],_=>exact ⟨_,.odd ha (by rw [hl]; simp),rfl⟩
   | _ :: _ :: _ :: _,_=>exact ⟨_,.odd ha (by rw [hl]; simp),rfl⟩
   | [e1,e2],hd =>
     unfold ba at hd
     obtain ⟨y,ys,rfl,h1,h2⟩:=hd
     unfold ba at h2
     obtain ⟨z,zs,rfl,h2,h3⟩:=h2
     unfold ba at h3
     subst h3
     obtain ⟨Ty,ty⟩:=h1.th
     obtain ⟨Tz,tz⟩:=h2.th
     refine ⟨_,.two ha ty tz,?_⟩
     show _=gf p (some (vi e1,vi e2))
     rcases h1.isInt with ⟨i,rfl,rfl⟩ | ⟨q1,n1⟩
     ·rcases h2.isInt with ⟨j,rfl,rfl⟩ | ⟨q2,n2⟩
      ·rfl
      ·rw [DG n2,q2]; rfl
     ·rw [Dq n1,q1]; rfl
theorem Dt.tmx {p:Int}{F:Addr->Prop}{H:Hp}{d:PyData}{v:V}(h:Dt F H d v)(n:i5 d):TmX p H v (j8 p d):=by
 cases d with
 | none=>unfold Dt at h; subst h; exact .no .non (by decide)
 | bool b=>unfold Dt at h; subst h; exact .no (.bl b) (by decide)
 | int i=>unfold Dt at h; subst h; exact .no (.int i) (by decide)
 | str x=>unfold Dt at h; subst h; exact .no (.str x) (by decide)
 | list ds=>unfold Dt at h; obtain ⟨a,xs,rfl,n,ha,hd⟩:=h; exact .no (.lst ha) (by decide)
 | dict kvs=>unfold Dt at h; obtain ⟨_,a,rfl,ha⟩:=h; exact .no (.dK ha) (by decide)
 | tuple ds =>
   unfold Dt at h
   obtain ⟨a,xs,rfl,ha,hd⟩:=h
   have hl:=hd.len
   match ds,hd,n with
   | [],_,_=>exact .odd ha (by rw [hl]; decide)
   | [_],_,_=>exact .odd ha (by rw [hl]; simp)
   | _ :: _ :: _ :: _,_,_=>exact .odd ha (by rw [hl]; simp)
   | [e1,e2],hd,n =>
     unfold ba at hd
     obtain ⟨y,ys,rfl,h1,h2⟩:=hd
     unfold ba at h2
     obtain ⟨z,zs,rfl,h2,h3⟩:=h2
     unfold ba at h3
     subst h3
     obtain ⟨o,ho,eo⟩:=h1.px (fun ds z=>Nat.lt_trans ((n _ _ rfl).1 ds z) (by decide))
     obtain ⟨o2,ho2,eo2⟩:=h2.tx (p:=p)
     show TmX p H (.ref a) (da (Cu e1)&&gf p (Cs e2))
     rw [← eo,← eo2]
     exact .two ha ho ho2
theorem Dt.tupd {F:Addr->Prop}{H:Hp}{d:PyData}{a:Addr}{xs:List V}(h:Dt F H d (.ref a))(e:H a=some (.tup xs)):∃ ds,d = .tuple ds∧ba F H ds xs:=by
 cases d with
 | none=>unfold Dt at h; cases h
 | bool b=>unfold Dt at h; cases h
 | int i=>unfold Dt at h; cases h
 | str x=>unfold Dt at h; cases h
 | list ds=>unfold Dt at h; obtain ⟨b,ys,z,n,hb,hd⟩:=h; cases z; rw [hb] at e; cases e
 | tuple ds=>unfold Dt at h; obtain ⟨b,ys,z,hb,hd⟩:=h; cases z; rw [hb] at e; cases e; exact ⟨ds,rfl,hd⟩
 | dict kvs=>unfold Dt at h; obtain ⟨_,b,z,hb⟩:=h; cases z; rw [hb] at e; cases e
theorem ba.two {F:Addr->Prop}{H:Hp}{ds:List PyData}{y z:V}(h:ba F H ds [y,z]):∃ d e,ds=[d,e]∧Dt F H d y∧Dt F H e z:=by
 cases ds with
 | nil=>unfold ba at h; cases h
 | cons d ds =>
   unfold ba at h
   obtain ⟨y',ys,q,h1,h2⟩:=h
   cases q
   cases ds with
   | nil=>unfold ba at h2; cases h2
   | cons e ds =>
     unfold ba at h2
     obtain ⟨z',zs,q,h2,h3⟩:=h2
     cases q
     cases ds with
     | nil=>exact ⟨d,e,rfl,h1,h2⟩
     | cons f ds=>unfold ba at h3; obtain ⟨_,_,q,_⟩:=h3; cases q
theorem Dt.intd {F:Addr->Prop}{H:Hp}{d:PyData}{i:Int}(h:Dt F H d (.int i)):d = .int i:=by
 rcases h.isInt with ⟨j,rfl,q⟩ | ⟨_,n⟩
 ·cases q; rfl
 ·exact absurd rfl (n i)
theorem Dt.tame {F:Addr->Prop}{H:Hp}{d:PyData}{v:V}(h:Dt F H d v)(n:i5 d):Tame H v:=by
 refine ⟨fun a l z xs e ha hl=>?_,fun a y c t b e ha hc=>?_⟩
 ·subst e
  obtain ⟨ds,rfl,hd⟩:=h.tupd ha
  obtain ⟨d1,d2,rfl,h1,h2⟩:=hd.two
  obtain ⟨es,rfl,he⟩:=h1.tupd hl
  rw [he.len]
  exact (n _ _ rfl).1 es rfl
 ·subst e
  obtain ⟨ds,rfl,hd⟩:=h.tupd ha
  obtain ⟨d1,d2,rfl,h1,h2⟩:=hd.two
  obtain ⟨es,rfl,he⟩:=h2.tupd hc
  obtain ⟨e1,e2,rfl,h3,h4⟩:=he.two
  cases h3.intd
  cases h4.intd
  obtain ⟨b1,b2⟩:=(n _ _ rfl).2 t b rfl
  exact ⟨b1.mono (by decide),b2.mono (by decide)⟩
def uP (t:Tm):PyData:=.tuple [.tuple (t.1.map PyData.int),.tuple [.int t.2.1,.int t.2.2]]
theorem Dj {F:Addr->Prop}{H:Hp}{y:V}{t:Tm}(h:xP H y t):Dt F H (uP t) y:=by
 obtain ⟨a,pr,nu,rfl,ha,hp,hn⟩:=h
 exact AI ha (.cons (AI hp (eQ _)) (.one (AI hn (.cons (hX _) (.one (hX _))))))
theorem zd {ds:List PyData}(h:(ds.map vi).all bg=true):∃ ks:List Int,ds=ks.map PyData.int:=by
 induction ds with
 | nil=>exact ⟨[],rfl⟩
 | cons d ds ih =>
   rw [List.map_cons,List.all_cons,Bool.and_eq_true] at h
   obtain ⟨ks,rfl⟩:=ih h.2
   cases d with
   | int i=>exact ⟨i :: ks,rfl⟩
   | _=>cases h.1
theorem BU (ks:List Int):(ks.map PyData.int).map vi=ks.map V.int:=by rw [List.map_map]; rfl
theorem yK {p t b:Int}(hp:FP p)(h:gf p (some (.int t,.int b))=true):Num p t b:=by
 unfold gf at h
 dsimp only at h
 by_cases z:p=0
 ·rw [if_pos z,Bool.and_eq_true] at h
  have h1:1≤b:=of_decide_eq_true h.1
  exact ⟨by omega,of_decide_eq_true h.2,fun n=>absurd z n⟩
 ·rw [if_neg z,Bool.and_eq_true,Bool.and_eq_true] at h
  have h1:b=1:=of_decide_eq_true h.1
  subst h1
  exact Num.ofP (of_decide_eq_true h.2.1) (of_decide_eq_true h.2.2)
theorem Ay {p:Int}{d:PyData}(g:j8 p d=true):∃ y z,d = .tuple [y,z]∧da (Cu y)=true∧gf p (Cs z)=true:=by
 cases d with
 | tuple ds =>
   cases ds with
   | nil=>cases g
   | cons y ds =>
     cases ds with
     | nil=>cases g
     | cons z ds =>
       cases ds with
       | nil=>exact ⟨y,z,rfl,Bool.and_eq_true _ _ ▸ (show (da (Cu y)&&gf p (Cs z))=true from g)⟩
       | cons _ _=>cases g
 | _=>cases g
theorem wg {y:PyData}(g:da (Cu y)=true):∃ ks:List Int,y = .tuple (ks.map PyData.int):=by
 cases y with
 | tuple ds =>
   have g':((ds.map vi).all bg&&cx (ds.map vi))=true:=g
   rw [Bool.and_eq_true] at g'
   obtain ⟨ks,rfl⟩:=zd g'.1
   exact ⟨ks,rfl⟩
 | _=>cases g
theorem zE {p:Int}{z:PyData}(g:gf p (Cs z)=true):∃ t b,z = .tuple [.int t,.int b]:=by
 cases z with
 | tuple ds =>
   cases ds with
   | nil=>cases g
   | cons y ds =>
     cases ds with
     | nil=>cases g
     | cons z ds =>
       cases ds with
       | cons _ _=>cases g
       | nil =>
         have g':gf p (some (vi y,vi z))=true:=g
         cases y with
         | int t =>
           cases z with
           | int b=>exact ⟨t,b,rfl⟩
           | _=>cases g'
         | _=>cases g'
 | _=>cases g
theorem Dt.tmr {p:Int}{F:Addr->Prop}{H:Hp}{d:PyData}{v:V}(hp:FP p)(h:Dt F H d v)(n:i5 d)(g:j8 p d=true):∃ t:Tm,d=uP t∧xP H v t∧Gn p 60 t.2∧Ah t.1:=by
 obtain ⟨y,z,rfl,g1,g2⟩:=Ay g
 obtain ⟨ks,rfl⟩:=wg g1
 obtain ⟨t,b,rfl⟩:=zE g2
 have hk:=(n _ _ rfl).1 _ rfl
 rw [List.length_map] at hk
 obtain ⟨b1,b2⟩:=(n _ _ rfl).2 t b rfl
 unfold Dt at h
 obtain ⟨a,xs,rfl,ha,hd⟩:=h
 unfold ba at hd
 obtain ⟨y,ys,rfl,h1,h2⟩:=hd
 unfold ba at h2
 obtain ⟨z,zs,rfl,h2,h3⟩:=h2
 unfold ba at h3
 subst h3
 have r1:∃ pr,y = .ref pr∧H pr=some (.tup (ks.map V.int)):=by
  unfold Dt at h1
  obtain ⟨pr,xs,rfl,hpr,hx⟩:=h1
  refine ⟨pr,rfl,?_⟩
  rw [hpr]
  have:∀ (ks:List Int)(xs:List V),ba F H (ks.map PyData.int) xs->xs=ks.map V.int:=by
   intro ks
   induction ks with
   | nil=>intro xs h; unfold ba at h; exact h
   | cons k ks ih =>
     intro xs h
     rw [List.map_cons] at h
     unfold ba at h
     obtain ⟨y,ys,rfl,h1,h2⟩:=h
     unfold Dt at h1
     rw [h1,ih ys h2]; rfl
  rw [this ks xs hx]
 have r2:∃ nu,z = .ref nu∧H nu=some (cj t b):=by
  unfold Dt at h2
  obtain ⟨nu,xs,rfl,hnu,hx⟩:=h2
  refine ⟨nu,rfl,?_⟩
  unfold ba at hx
  obtain ⟨y,ys,rfl,h1,h2⟩:=hx
  unfold ba at h2
  obtain ⟨z,zs,rfl,h2,h3⟩:=h2
  unfold ba at h3
  unfold Dt at h1 h2
  subst h1 h2 h3
  exact hnu
 obtain ⟨pr,rfl,hpr⟩:=r1
 obtain ⟨nu,rfl,hnu⟩:=r2
 refine ⟨(ks,t,b),rfl,⟨a,pr,nu,rfl,ha,hpr,hnu⟩,⟨yK hp g2,b1,b2⟩,?_,Nat.lt_trans hk (by decide)⟩
 have:da (some ((ks.map PyData.int).map vi))=true:=g1
 rw [BU] at this
 exact this
theorem Am {t:Tm}(h1:t.1.length < 64)(h2:B 60 t.2.1)(h3:B 60 t.2.2):i5 (uP t):=by
 intro y z e
 unfold uP at e
 injection e with e
 injection e with e1 e2
 injection e2 with e2
 subst e1 e2
 refine ⟨fun ds z=>?_,fun t' b' z=>?_⟩
 ·injection z with z
  rw [← z,List.length_map]
  exact h1
 ·injection z with z
  injection z with z1 z2
  injection z2 with z2
  injection z1 with z1
  injection z2 with z2
  subst z1 z2
  exact ⟨h2,h3⟩
theorem mV {xs:List V}{z:Int}(h0:0≤z)(h1:z < (xs.length:Int)):∃ v,qa xs z=some v∧xs[z.toNat]?=some v:=by
 obtain ⟨k,rfl⟩:∃ k:Nat,z=(k:Int):=⟨z.toNat,by omega⟩
 have hk:k < xs.length:=by omega
 exact ⟨xs[k],ji (by simp [hk]),by simp [hk]⟩
theorem aU.same {H H':Hp}{r:Addr}(h:aU H r)(s:aA H H'):aU H' r:=by
 obtain ⟨l,x,e,h⟩:=h
 exact ⟨l,x,s _ _ e,h⟩
theorem aU.ne {H:Hp}{r a:Addr}(h:aU H r)(e:H a=none):a≠r:=fun z=>by
 obtain ⟨l,x,h,_⟩:=h
 rw [z,h] at e
 cases e
theorem aU.keepT {H H':Hp}{r:Addr}(h:aU H r)(s:SameBut r H H'):aF H H':=fun b xs e=>s b _ e fun z=>by
 obtain ⟨l,x,e',_⟩:=h
 rw [z,e'] at e
 cases e
theorem kh {ks:List Int}(h:ks.Pairwise (· < ·))(hb:∀ k∈ks,0≤k∧k < 60)(hl:ks.length < 4000):Ah ks:=by
 refine ⟨?_,hl⟩
 show ((ks.map V.int).all bg&&cx (ks.map V.int))=true
 rw [iA,decide_eq_true h,Bool.and_true,List.all_map,List.all_eq_true]
 intro k hk
 obtain ⟨h0,h1⟩:=hb k hk
 show (decide (0≤k)&&decide (k < 60))=true
 rw [decide_eq_true h0,decide_eq_true h1]
 rfl
abbrev jf:Stmt:=(bt 45)
def xc (p:Int)(t:Tm):Prop:=Gn p 45 t.2∧t.1.Pairwise (· < ·)∧(∀ k∈t.1,0≤k∧k < 60)∧t.1.length≤60
def spLTerms:Sp:=fun vs H Q _=>∃ (r:Addr)(p:Int),vs=[.ref r,.int p]∧aU H r∧FP p ∧
 ∀ (D:Addr)(ys:List V)(ts:List Tm)(H':Hp),H D=none->H' D=some (.lst ys)->bh H' ys ts->ts.length≤8->(∀ t∈ts,xc p t)->aU H' r->SameBut r H H'->Q (.ref D) H'
theorem p3:∀ {ks:List Int}{lo:Int},ks.Pairwise (· < ·)->(∀ k∈ks,lo≤k∧k < 60)->lo≤60->lo + ks.length≤60
 | [],lo,_,_,h=>by simpa using h
 | k :: ks,lo,h,hb,_=>by
   obtain ⟨h1,h2⟩:=List.pairwise_cons.mp h
   have b0:=hb k List.mem_cons_self
   have:=p3 (lo:=k + 1) h2 (fun x hx=>⟨by have:=h1 x hx; omega,(hb x (List.mem_cons_of_mem _ hx)).2⟩) (by omega)
   rw [List.length_cons]
   push_cast
   omega
theorem ud {r a:Addr}{H H':Hp}(s:SameBut r H H')(n:a≠r)(h:H' a=none):H a=none:=by
 cases e:H a with
 | none=>rfl
 | some o=>rw [s _ _ e n] at h; cases h
theorem eZ:FnScope ["_law_room_here","_law_prime_here","_law_some","_law_found","_law_k","_law_product"] ["_law_room_here","_law_prime_here"] (ar jf):=eO (by decide +kernel)
variable {P:Program}{w:World}{K:PySem.W.Frag}{mg:Str->Option Value}{base:Heap}
theorem uZ {f ft fn:Addr}{fd fdt fdn:FuncData}(F:Fun K "_law_terms" "_law_terms" jf f fd)(m_range:mg "range"=none)(m_sorted:mg "sorted"=none)(m_set:mg "set"=none)(m_tuple:mg "tuple"=none)
 (FT:FnOk P w K mg base (bz P w) 1 ft fdt ["_law_room_here","_law_many"] spTake)(bT:L2.aH K fdt ["_law_room_here","_law_many"] [])(mT:mg "_law_take"=some (.ref ft))(kT:keepIn K (.ref ft)=true)
 (FN:FnOk P w K mg base (bz P w) 2 fn fdn ["_law_room_here","_law_prime_here"] spNumber)(bN:L2.aH K fdn ["_law_room_here","_law_prime_here"] [])(mN:mg "_law_number"=some (.ref fn))(kN:keepIn K (.ref fn)=true):
 FnOk P w K mg base (bz P w) 3 f fd ["_law_room_here","_law_prime_here"] spLTerms:=by
 refine F.okN eZ (fun vs H Q E h=>?_) (fun cdv A outer s H vs Q E hr h=>?_)
 ·obtain ⟨r,p,rfl,_⟩:=h
  rfl
 ·obtain ⟨r,p,rfl,hR,hp,q⟩:=h
  have hr2:Room 2 _:=hr.mono (by decide)
  have hr1:Room 1 _:=hr.mono (by decide)
  refine ⟨_,(ao (@aS _ _ 2 _ _ _ _ eZ.nd rfl (Or.inr rfl) (az rm (by rfl) m_sorted (by rfl) (@aj _ _ _ _ _ (dJ (N:=["_law_k","_law_room_here"]) (nl:=1) (js:=[0]) (osc:=ar jf) ⟨rfl,rfl,by decide +kernel,by decide +kernel,by decide +kernel,rfl,(.cons ⟨rfl,by decide +kernel⟩ .nil),by decide +kernel⟩ rfl
   (d9 (by rfl) m_range (@aj _ _ _ _ _ ai ae rfl))
   (fun C fp s H=>aR (i:=0) (by show (["_law_k","_law_room_here"]:List Str).Nodup; decide +kernel) rfl (Or.inl rfl) (Or.inr rfl))
   (fun C fp s H=>gM)
   (fun C fp s H=>(aB FT hr1 (by rfl) mT kT bT .nil ah (@aj _ _ _ _ _ (pv 1) (@aj _ _ _ _ _ ai ae rfl) rfl)))) ae rfl)) rfl (Or.inl rfl))
   (ao (@aS _ _ 3 _ _ _ _ eZ.nd rfl (Or.inl rfl) (@bM _ _ _ _ ae) rfl (Or.inl rfl))
   (ao (gD PassesOwn.never rfl (d9 (by rfl) m_range (@aj _ _ _ _ _ (aB FT hr1 (by rfl) mT kT bT .nil ah (@aj _ _ _ _ _ (pv 0) (@aj _ _ _ _ _ ai ae rfl) rfl)) ae rfl)) (aR (i:=4) eZ.nd rfl (Or.inl rfl))
   (ao (@aS _ _ 5 _ _ _ _ eZ.nd rfl (Or.inl rfl) (cE gc (by rfl) m_tuple (by rfl) (@aj _ _ _ _ _ (jQ rfl (dJ (N:=["_law_j","_law_room_here","_law_some"]) (nl:=1) (js:=[0,2]) (osc:=ar jf) ⟨rfl,rfl,by decide +kernel,by decide +kernel,by decide +kernel,rfl,(.cons ⟨rfl,by decide +kernel⟩ (.cons ⟨rfl,by decide +kernel⟩ .nil)),by decide +kernel⟩ rfl
    (d9 (by rfl) m_range (@aj _ _ _ _ _ ai ae rfl))
    (fun C fp s H=>aR (i:=0) (by show (["_law_j","_law_room_here","_law_some"]:List Str).Nodup; decide +kernel) rfl (Or.inl rfl) (Or.inr rfl))
    (fun C fp s H=>(fH (@aJ _ _ _ _ _ _ _ _ dZ (aB FT hr1 (by rfl) mT kT bT .nil ah (@aj _ _ _ _ _ (pv 1) (@aj _ _ _ _ _ ai ae rfl) rfl)) ai (aI _))))
    (fun C fp s H=>(@aQ _ _ _ _ _ _ _ (show DF _ (Dl K) from bA) (pv 2) (pv 0) (fun _ _=>rfl)))) rfl (by rfl) m_sorted (by rfl) m_set) ae rfl)) rfl (Or.inl rfl))
   (av (fU (om PySem.F.plainAttrs_list PySem.F.slot_list_append PySem.F.type_list_append fJ (pv 3) (@aj _ _ _ _ _ (@aC _ _ _ _ _ (@aj _ _ _ _ _ (pv 5) (@aj _ _ _ _ _ (aB FN hr2 (by rfl) mN kN bN .nil ah (@aj _ _ _ _ _ (pv 0) (@aj _ _ _ _ _ (pv 1) ae rfl) rfl)) ae rfl) rfl)) ae rfl))))))
   (av (aD (pv 3)))))),?_⟩
  refine ⟨5,rfl,by decide,by decide,?_⟩
  refine oA (n:=5) (fun i us H'=>(∃ ks:List Int,us=ks.map V.int∧ks.length=i∧∀ k∈ks,0≤k∧k < 60)∧aU H' r∧SameBut r H H') ⟨⟨[],rfl,rfl,fun k h=>nomatch h⟩,hR,fun _ _ e _=>e⟩ (fun i us H' hi h=>?_) (fun i us H' N hi h k=>?_) (fun us H1 h=>?_)
  ·obtain ⟨⟨ks,rfl,hk,_⟩,_⟩:=h
   rw [List.length_map,hk]
   exact Nat.lt_of_le_of_lt hi (by decide)
  ·obtain ⟨⟨ks,rfl,hk,hks⟩,R1,sb1⟩:=h
   refine CG ⟨_,rfl,?_⟩
   obtain ⟨lq1,xq1,hq1,yq1,zq1⟩:=id R1
   refine ⟨_,lq1,xq1,60,rfl,hq1,yq1,zq1,by decide,by decide,fun z lp1 xp1 z0 z1 yp1 zp1=>?_⟩
   have R2:aU (upd H' r (.lst [.int lp1,.int xp1])) r:=⟨lp1,xp1,ag,yp1,zp1⟩
   have sb2:SameBut r H' (upd H' r (.lst [.int lp1,.int xp1])):=SameBut.upd
   generalize upd H' r (.lst [.int lp1,.int xp1])=H2 at R2 sb2 ⊢
   refine k _ _ ⟨⟨ks++[z],by simp,by simp [hk],fun k h=>?_⟩,R2,sb1.trans sb2⟩
   rcases List.mem_append.mp h with h | h
   ·exact hks k h
   ·have:k=z:=by simpa using h
    subst this
    exact ⟨z0,z1⟩
  obtain ⟨⟨ks,rfl,hk,hks⟩,R1,sb1⟩:=h
  intro D hD
  refine ⟨D,ks,rfl,br.of ag,by omega,fun S ms hS perm pw=>?_⟩
  have nD:=R1.ne hD
  have s2:=(ak (o:=.lst (ks.map V.int)) hD).trans (ak (o:=.lst (ms.map V.int)) hS)
  have hS2:upd (upd H1 D (.lst (ks.map V.int))) S (.lst (ms.map V.int)) S=some (.lst (ms.map V.int)):=ag
  have nS:S≠r:=(R1.same (ak hD)).ne hS
  have hm:ms.length=5:=by rw [perm.length_eq,hk]
  have hms:∀ k∈ms,0≤k∧k < 60:=fun k h=>hks k (perm.mem_iff.mp h)
  have R2:=R1.same s2
  have sb2:SameBut r H _:=sb1.trans (SameBut.of s2)
  generalize upd (upd H1 D _) S _=H2 at s2 hS2 R2 sb2 ⊢
  clear hS hD R1 sb1
  refine ⟨Nat.zero_le _,fun L hL=>?_⟩
  have nL:=R2.ne hL
  have hL0:=ud sb2 nL hL
  have s3:=ak (o:=.lst []) hL
  have eL:upd H2 L (.lst []) L=some (.lst []):=ag
  have nSL:S≠L:=au hS2 hL
  have hS3:=s3 _ _ hS2
  have R3:=R2.same s3
  have sb3:SameBut r H _:=sb2.trans (SameBut.of s3)
  generalize upd H2 L _=H3 at s3 eL hS3 R3 sb3 ⊢
  refine ⟨_,rfl,?_⟩
  obtain ⟨lq2,xq2,hq2,yq2,zq2⟩:=id R3
  refine ⟨_,lq2,xq2,9,rfl,hq2,yq2,zq2,by decide,by decide,fun z lp2 xp2 z0 z1 yp2 zp2=>?_⟩
  have R4:aU (upd H3 r (.lst [.int lp2,.int xp2])) r:=⟨lp2,xp2,ag,yp2,zp2⟩
  have sb4:SameBut r H3 (upd H3 r (.lst [.int lp2,.int xp2])):=SameBut.upd
  generalize upd H3 r (.lst [.int lp2,.int xp2])=H4 at R4 sb4 ⊢
  have eL4:=sb4 _ _ eL nL
  have hS4:=sb4 _ _ hS3 nS
  have sb04:=sb3.trans sb4
  refine ⟨z,rfl,by omega,by omega,?_⟩
  refine ⟨fun i m σ' H'=>m=z.toNat - i∧i≤z.toNat∧aU H' r∧SameBut r H H'∧H' S=some (.lst (ms.map V.int))∧(∃ ys ts,H' L=some (.lst ys)∧bh H' ys ts∧ts.length=i∧∀ t∈ts,xc p t)∧∃ o4 o5,σ'=[some (.ref r),some (.int p),some (.ref S),some (.ref L),o4,o5],
   ⟨z.toNat,by simp,Nat.zero_le _,R4,sb04,hS4,⟨[],[],eL4,.nil,rfl,fun t h=>(nomatch h)⟩,none,none,rfl⟩,?_⟩
  clear hS2 hS3 hS4 eL eL4 R2 R3 R4 sb2 sb3 sb4 sb04 s2 s3
  rintro i m σ' H' ⟨rfl,hi,hR',sb',hS',⟨ys,ts,eD,ht,tl,tg⟩,o4,o5,rfl⟩
  by_cases hlt:i < z.toNat
  ·refine .inr ⟨hlt,fun σ' H'=>aU H' r∧SameBut r H H'∧H' S=some (.lst (ms.map V.int))∧(∃ ys ts,H' L=some (.lst ys)∧bh H' ys ts∧ts.length=i + 1∧∀ t∈ts,xc p t)∧∃ o4 o5,σ'=[some (.ref r),some (.int p),some (.ref S),some (.ref L),o4,o5],?_,fun y H2 hy=>?_⟩
   ·rintro σ' H' ⟨h1,h2,h3,h4⟩
    exact ⟨z.toNat - (i + 1),by omega,rfl,hlt,h1,h2,h3,h4⟩
   ·obtain ⟨rfl,rfl⟩:=hy
    refine ⟨5,rfl,by decide,by decide,?_⟩
    refine oA (n:=5) (fun i us H'=>(∃ ks:List Int,us=ks.map V.int∧ks.length≤i∧∀ k∈ks,0≤k∧k < 60)∧aU H' r∧SameBut r H2 H') ⟨⟨[],rfl,Nat.le_refl _,fun k h=>nomatch h⟩,hR',fun _ _ e _=>e⟩ (fun i us H' hi h=>?_) (fun i us H' N hi h k=>?_) (fun us H5 h=>?_)
    ·obtain ⟨⟨ks,rfl,hk,_⟩,_⟩:=h
     rw [List.length_map]
     exact Nat.lt_of_le_of_lt (Nat.le_trans hk hi) (by decide)
    ·obtain ⟨⟨ks,rfl,hk,hks⟩,R1,sb1⟩:=h
     refine ⟨_,rfl,?_⟩
     obtain ⟨lq3,xq3,hq3,yq3,zq3⟩:=id R1
     refine ⟨_,lq3,xq3,2,rfl,hq3,yq3,zq3,by decide,by decide,fun u lp3 xp3 u0 u1 yp3 zp3=>?_⟩
     have R6:aU (upd H' r (.lst [.int lp3,.int xp3])) r:=⟨lp3,xp3,ag,yp3,zp3⟩
     have sb6:SameBut r H' (upd H' r (.lst [.int lp3,.int xp3])):=SameBut.upd
     generalize upd H' r (.lst [.int lp3,.int xp3])=H6 at R6 sb6 ⊢
     refine ⟨rfl,_,rfl,?_⟩
     refine bQ (fun h=>?_) (fun h=>?_)
     ·have hi5:(i:Int) < ((ms.map V.int).length:Int):=by rw [List.length_map,hm]; omega
      obtain ⟨v,ev,hv⟩:=mV (xs:=ms.map V.int) (z:=0 + (i:Int)) (by omega) (by omega)
      rw [List.getElem?_map] at hv
      obtain ⟨x,hx,rfl⟩:=Option.map_eq_some_iff.mp hv
      refine ⟨_,rfl,_,rfl,S,_,_,_,rfl,rfl,br.of (sb6 _ _ (sb1 _ _ hS' nS) nS),ev,k _ _ ⟨⟨ks++[x],by simp,by simp; omega,fun k h=>?_⟩,R6,sb1.trans sb6⟩⟩
      rcases List.mem_append.mp h with h | h
      ·exact hks k h
      ·have:k=x:=by simpa using h
       subst this
       exact hms _ (List.mem_of_getElem? hx)
     ·exact k _ _ ⟨⟨ks,rfl,by omega,hks⟩,R6,sb1.trans sb6⟩
    obtain ⟨⟨ns,rfl,hn,hns⟩,R5,sb5⟩:=h
    intro D2 hD2
    refine ⟨D2,ns,rfl,.inl (br.of ag),by omega,fun D3 ks hD3 pwk memk=>?_⟩
    have hks:∀ k∈ks,0≤k∧k < 60:=fun k h=>hns k ((memk k).mp h)
    refine ⟨D3,_,rfl,.inl ⟨br.of ag,fun a ha=>?_⟩⟩
    have s6:=((ak (o:=.lst (ns.map V.int)) hD2).trans (ak (o:=.lst (ks.map V.int)) hD3)).trans (ak (o:=.tup (ks.map V.int)) ha)
    have ea:upd (upd (upd H5 D2 (.lst (ns.map V.int))) D3 (.lst (ks.map V.int))) a (.tup (ks.map V.int)) a=some (.tup (ks.map V.int)):=ag
    generalize upd (upd (upd H5 D2 _) D3 _) a _=H6 at s6 ea ⊢
    have sb6:SameBut r H2 H6:=sb5.trans (SameBut.of s6)
    have R6:=R5.same s6
    have eL6:=sb6 _ _ eD nL
    have k6:=hR'.keepT sb6
    clear hD2 hD3 ha s6 R5 sb5
    refine ⟨_,rfl,.inl ⟨rfl,_,br.of eL6⟩,_,rfl,_,rfl,_,rfl,r,p,rfl,hp,R6,fun an tt bb H7 hnum B1 B2 hn7 R7 sb7=>?_⟩
    have k7:=R6.keepT sb7
    refine ⟨kQ,fun tu htu=>?_⟩
    have eL7:=sb7 _ _ eL6 nL
    have sU:aA H7 (upd H7 tu (.tup [.ref a,.ref an])):=ak htu
    have eL8:=sU _ _ eL7
    refine ⟨L,ys,.ref tu,rfl,rfl,eL8,?_,?_⟩
    ·rw [ht.length]
     exact Nat.lt_of_le_of_lt (show ts.length≤60 by omega) (by decide)
    have kD:aF (upd H7 tu (.tup [.ref a,.ref an])) (upd (upd H7 tu (.tup [.ref a,.ref an])) L (.lst (ys++[.ref tu]))):=aF.upd fun xs z=>by rw [eL8] at z; cases z
    have kA:aF H2 (upd (upd H7 tu (.tup [.ref a,.ref an])) L (.lst (ys++[.ref tu]))):=(k6.trans k7).trans ((aF.of sU).trans kD)
    obtain ⟨l9,x9,e9,f0,f1⟩:=R7
    have hS9:upd (upd H7 tu (.tup [.ref a,.ref an])) L (.lst (ys++[.ref tu])) S=some (.lst (ms.map V.int)):=by
     rw [aq nSL]
     exact sU _ _ (sb7 _ _ (sb6 _ _ hS' nS) nS)
    refine ⟨⟨l9,x9,by rw [aq (Ne.symm nL)]; exact sU _ _ e9,f0,f1⟩,fun b u e nb=>?_,hS9,⟨_,ts++[(ks,tt,bb)],ag,Paired.snoc (bh.keep ht kA) ⟨tu,a,an,rfl,kD _ _ ag,kD _ _ (sU _ _ (k7 _ _ ea)),kD _ _ (sU _ _ hn7)⟩,by simp [tl],fun t h=>?_⟩,_,_,rfl⟩
    ·have nb2:b≠L:=au e hL0
     rw [aq nb2]
     exact sU _ _ (sb7 _ _ (sb6 _ _ (sb' _ _ e nb) nb) nb)
    ·rcases List.mem_append.mp h with h | h
     ·exact tg t h
     ·have:t=(ks,tt,bb):=by simpa using h
      subst this
      refine ⟨⟨hnum,B1,B2⟩,pwk,hks,?_⟩
      have:=p3 (lo:=0) pwk hks (by decide)
      show ks.length≤60
      omega
  ·have ei:i=z.toNat:=by omega
   refine .inl ⟨by show z.toNat≤i; omega,?_⟩
   exact ⟨_,rfl,q L ys ts H' hL0 eD ht (by omega) tg hR' sb'⟩
abbrev DC:Stmt:=(bt 46)
abbrev dP (ks:List Int):PyData:=.tuple (ks.map PyData.int)
abbrev dN (t b:Int):PyData:=.tuple [.int t,.int b]
def dq (F:Addr->Prop)(σ:St)(H0:Hp)(te:TE)(d:PyData):Prop:=∀ (H:Hp)(Q:VK),aA H0 H->(∀ v H',aA H H'->Dt F H' d v->Q v H')->te σ H Q
def gu (F:Addr->Prop)(σ:St)(H0:Hp)(ta:TA)(ds:List PyData):Prop:=∀ (H:Hp)(Q:List V->Hp->Prop),aA H0 H->(∀ vs H',aA H H'->ba F H' ds vs->Q vs H')->ta σ H Q
section
variable {F:Addr->Prop}{σ:St}{H0:Hp}
theorem ax:gu F σ H0 tNil []:=fun H Q s q=>q [] H (aA.refl _) .nil
theorem af {te:TE}{ta:TA}{d:PyData}{ds:List PyData}(h:dq F σ H0 te d)(k:gu F σ H0 ta ds):gu F σ H0 (cT te ta) (d :: ds):=fun H Q s q =>
 h H _ s fun v H1 s1 hd=>k H1 _ (s.trans s1) fun vs H2 s2 hds=>q (v :: vs) H2 (s1.trans s2) (.cons (Dt.keep (aM.of s2) _ _ hd) hds)
theorem qL {ds:List PyData}{H:Hp}{vs:List V}(h:ba F H ds vs)(hl:ds.length≤100):vs.length≤sizeLine:=by
 rw [h.len]
 exact Nat.le_trans hl (by decide)
theorem ay {ta:TA}{ds:List PyData}(h:gu F σ H0 ta ds)(hl:ds.length≤100:=by simp):dq F σ H0 (Cm ta) (.tuple ds):=fun H Q s q =>
 h H _ s fun vs H1 s1 hd=>⟨qL hd hl,fun p hp=>q _ _ (s1.trans (ak hp)) (AI ag (ba.keep (aM.of (ak hp)) _ _ hd))⟩
theorem iK {ta:TA}{ds:List PyData}(h:gu F σ H0 ta ds)(hF:∀ a,H0 a=none->F a)(hl:ds.length≤100:=by simp):dq F σ H0 (yx ta) (.list ds):=fun H Q s q =>
 h H _ s fun vs H1 s1 hd=>⟨qL hd hl,fun p hp=>q _ _ (s1.trans (ak hp)) (E5 (hF p (none_of (s.trans s1) hp)) ag (ba.keep (aM.of (ak hp)) _ _ hd))⟩
theorem aK {i:Nat}{v:V}{d:PyData}(e:σ[i]?=some (some v))(h:Dt F H0 d v):dq F σ H0 (dF i) d:=fun H Q s q=>⟨v,e,q v H (aA.refl _) (Dt.keep (aM.of s) _ _ h)⟩
theorem aZ {v:V}{d:PyData}(h:∀ {H:Hp},Dt F H d v):dq F σ H0 (tC v) d:=fun H Q s q=>q v H (aA.refl _) h
theorem qr:dq F σ H0 tDNewK (.dict []):=fun H Q s q p hp=>q _ _ (ak hp) (by unfold Dt; exact ⟨rfl,p,rfl,ag⟩)
theorem uj:dq F σ H0 (mJ (vP fun i j=>.int (i - j)) (tC (.int 0)) (tC (.int 1))) (.int (0 - 1)):=fun H Q s q=>⟨0,1,rfl,rfl,q _ H (aA.refl _) (hX _)⟩
theorem ie {K:Frag}{i:Nat}{a:Addr}{t b:Int}(e:σ[i]?=some (some (.ref a)))(h:H0 a=some (cj t b)):dq F σ H0 (mJ (yO K) (dF i) (tC (.int 0))) (.int t):=fun H Q s q =>
 ⟨_,e,a,_,0,_,rfl,rfl,bf.of (s _ _ h),rfl,q _ H (aA.refl _) (hX _)⟩
theorem uy {K:Frag}{i:Nat}{a:Addr}{t b:Int}(e:σ[i]?=some (some (.ref a)))(h:H0 a=some (cj t b)):dq F σ H0 (mJ (yO K) (dF i) (tC (.int 1))) (.int b):=fun H Q s q =>
 ⟨_,e,a,_,1,_,rfl,rfl,bf.of (s _ _ h),rfl,q _ H (aA.refl _) (hX _)⟩
theorem nc {K:Frag}{i:Nat}{a:Addr}{ks:List Int}(hF:∀ a,H0 a=none->F a)(e:σ[i]?=some (some (.ref a)))(h:H0 a=some (.tup (ks.map V.int))):dq F σ H0 (C6 (nR K) (cT (dF i) tNil)) (.list (ks.map PyData.int)):=fun H Q s q =>
 ⟨_,e,a,_,rfl,.inr (bf.of (s _ _ h)),fun l hl=>q _ _ (ak hl) (E5 (hF l (none_of s hl)) ag (eQ ks))⟩
theorem lO {ta tb:TE}{ds es:List PyData}(h:dq F σ H0 ta (.tuple ds))(k:dq F σ H0 tb (.tuple es))(hl:ds.length + es.length≤100):dq F σ H0 (mJ rCatS ta tb) (.tuple (ds++es)):=fun H Q s q =>
 h H _ s fun v H1 s1 hd=>k H1 _ (s.trans s1) fun u H2 s2 he=>by
   have hd:=Dt.keep (aM.of s2) _ _ hd
   unfold Dt at hd he
   obtain ⟨a,xs,rfl,ha,hx⟩:=hd
   obtain ⟨b,ys,rfl,hb,hy⟩:=he
   refine ⟨a,b,xs,ys,rfl,rfl,ha,hb,?_,fun p H3 s3 hp=>q _ _ ((s1.trans s2).trans s3) (AI hp (ba.keep (aM.of s3) _ _ (hx.append hy)))⟩
   rw [hx.len,hy.len]
   exact Nat.le_trans hl (by decide)
theorem nH {ta:TA}{ds:List PyData}{Q:VK}(h:gu F σ H0 ta ds)(hl:ds.length≤100)(q:∀ p vs H',H0 p=none->aA H0 H'->H' p=some (.lst vs)->ba F H' ds vs->Q (.ref p) H'):yx ta σ H0 Q :=
 h H0 _ (aA.refl _) fun vs H1 s1 hd=>⟨qL hd hl,fun p hp=>q p vs _ (none_of s1 hp) (s1.trans (ak hp)) ag (ba.keep (aM.of (ak hp)) _ _ hd)⟩
theorem Br {te:TE}{d:PyData}{Q:List V->Hp->Prop}(h:dq F σ H0 te d)(q:∀ v H',aA H0 H'->Dt F H' d v->Q [v] H'):cT te tNil σ H0 Q:=h H0 _ (aA.refl _) fun v H1 s1 hd=>q v H1 s1 hd
theorem nW {ta:TA}{ds es:List PyData}{i:Nat}{L:Addr}{vs:List V}{Q:VK}(h:gu F σ H0 ta ds)(e:σ[i]?=some (some (.ref L)))(eL:H0 L=some (.lst vs))(hd:ba F H0 es vs)(hl:es.length + ds.length≤100)
 (q:∀ L2 vs2 H',aA H0 H'->H' L2=some (.lst vs2)->ba F H' (es++ds) vs2->Q (.ref L2) H'):mJ rCat (dF i) (yx ta) σ H0 Q:=by
 refine ⟨_,e,?_⟩
 refine nH h (by omega) fun p ws H1 hp s1 ep hw=>⟨L,p,vs,ws,rfl,rfl,s1 _ _ eL,ep,?_,fun L2 h2=>?_⟩
 ·rw [hd.len,hw.len]
  exact Nat.le_trans hl (by decide)
 ·exact q L2 _ _ (s1.trans (ak h2)) ag ((ba.keep (aM.of (s1.trans (ak h2))) _ _ hd).append (ba.keep (aM.of (ak h2)) _ _ hw))
end
theorem sX {ks:List Int}(hk:∀ k∈ks,0≤k∧k < 60):∀ k∈ks,iZ k:=fun k h=>by
 have:=hk k h
 unfold iZ
 omega
theorem yG (k:Nat){ks:List Int}(hl:ks.length≤60)(hk:∀ k∈ks,0≤k∧k < 60):So (k + 1) 120000 (dP ks):=(aV.tup (gP (sX hk))).mono (Nat.le_refl _) (by omega)
theorem Ec (k:Nat){ks:List Int}(hl:ks.length≤60)(hk:∀ k∈ks,0≤k∧k < 60):So (k + 1) 120000 (.list (ks.map PyData.int)):=(aV.lst (gP (sX hk))).mono (Nat.le_refl _) (by omega)
theorem fZ (k:Nat){t b:Int}(h1:B 45 t)(h2:B 45 b):So (k + 1) 4000 (dN t b):=(aV.tup (aV.cons (l:=3848) (rp (iZ.of (h1.mono (by decide)))) (aV.cons (l:=1923) (rp (iZ.of (h2.mono (by decide)))) (aV.nil (m:=0)) (by decide)) (by decide))).mono (Nat.le_refl _) (by decide)
theorem DV (k:Nat){ks:List Int}(hl:ks.length≤60)(hk:∀ k∈ks,0≤k∧k < 60):So (k + 1) 120000 (.tuple (ks.map PyData.int++[.int 60])):=by
 have h:=gP (k:=k) (ns:=ks++[60]) fun n hn=>by
  rcases List.mem_append.mp hn with hn | hn
  ·exact sX hk n hn
  ·have:n=60:=by simpa using hn
   subst this
   unfold iZ; decide
 rw [List.map_append] at h
 exact (aV.tup h).mono (Nat.le_refl _) (by simp; omega)
theorem Ew (k:Nat){ks:List Int}(hl:ks.length≤60)(hk:∀ k∈ks,0≤k∧k < 60):So (k + 1) 120000 (.tuple ([.int (0 - 1)]++ks.map PyData.int)):=by
 have h:=gP (k:=k) (ns:=[0 - 1]++ks) fun n hn=>by
  rcases List.mem_append.mp hn with hn | hn
  ·have:n=0 - 1:=by simpa using hn
   subst this
   unfold iZ; decide
  ·exact sX hk n hn
 rw [List.map_append] at h
 exact (aV.tup h).mono (Nat.le_refl _) (by simp; omega)
theorem Df (k:Nat):So k 1921 (.str "ab"):=⟨rfl,by unfold PyData.depth; omega,by have:wt (.str "ab")≤1921:=(by decide +kernel); exact this⟩
theorem DU (k:Nat):So k 1921 (.str "0"):=⟨rfl,by unfold PyData.depth; omega,by have:wt (.str "0")≤1921:=(by decide +kernel); exact this⟩
theorem cU {y z:PyData}(h1:∀ ds,y = .tuple ds->ds.length < 64)(h2:∀ t b,z = .tuple [.int t,.int b]->B 60 t∧B 60 b):i5 (.tuple [y,z]):=by
 intro y' z' e
 injection e with e
 injection e with e1 e2
 injection e2 with e2
 subst e1 e2
 exact ⟨h1,h2⟩
theorem gW {es:List PyData}(h:es.length < 64):∀ ds,PyData.tuple es = .tuple ds->ds.length < 64:=fun ds e=>by injection e with e; rw [← e]; exact h
theorem iJ {t b:Int}(h1:B 60 t)(h2:B 60 b):∀ t' b',PyData.tuple [.int t,.int b] = .tuple [.int t',.int b']->B 60 t'∧B 60 b':=fun t' b' e=>by
 injection e with e
 injection e with e1 e2
 injection e2 with e2
 injection e1 with e1
 injection e2 with e2
 subst e1 e2
 exact ⟨h1,h2⟩
theorem En {ks:List Int}(hk:∀ k∈ks,0≤k∧k < 60):∀ t' b',PyData.tuple (ks.map PyData.int) = .tuple [.int t',.int b']->B 60 t'∧B 60 b':=fun t' b' e=>by
 injection e with e
 have m1:PyData.int t'∈ks.map PyData.int:=by rw [e]; simp
 have m2:PyData.int b'∈ks.map PyData.int:=by rw [e]; simp
 obtain ⟨k1,h1,z1⟩:=List.mem_map.mp m1
 obtain ⟨k2,h2,z2⟩:=List.mem_map.mp m2
 injection z1 with z1
 injection z2 with z2
 subst z1 z2
 have:=hk _ h1
 have:=hk _ h2
 unfold B
 omega
theorem sn {m:Nat}{d:PyData}(h:So 4 m d)(n:i5 d)(hm:m≤200000:=by decide):So 4 200000 d∧i5 d:=⟨h.mono (by decide) hm,n⟩
def CA (ks:List Int)(t b:Int):List PyData:=[.tuple [dP ks,.none],.tuple [dP ks,.int t],.tuple [dP ks,.tuple [.int t,.int 0]],.none,.tuple [dP ks,.list [.int t,.int b]],.tuple [.list (ks.map PyData.int),dN t b],.tuple [dP ks],.tuple [dP ks,dN t b,.int 1],.list [dP ks,dN t b],.tuple [dN t b,dP ks],.tuple [.tuple (ks.map PyData.int++[.int 60]),dN t b],.tuple [.tuple ([.int (0 - 1)]++ks.map PyData.int),dN t b],.tuple [.tuple [.bool true],dN t b],.tuple [.tuple [.int 3,.int 3],dN t b],.tuple [.tuple [.int 4,.int 2],dN t b],.tuple [.str "ab",dN t b],.tuple [.tuple [.str "0"],dN t b],.tuple [.none,dN t b],.tuple [.int 7,dN t b],.tuple [dP ks,.tuple [.bool true,.int 1]],.tuple [.tuple [.list [.int 0]],dN t b],.tuple [.tuple [.dict []],dN t b]]
theorem zz {ks:List Int}{t b:Int}(hl:ks.length≤60)(hk:∀ k∈ks,0≤k∧k < 60)(hb1:B 45 t)(hb2:B 45 b):∀ d∈CA ks t b,So 4 200000 d∧i5 d:=by
 intro d hd
 unfold CA at hd
 simp only [List.mem_cons,List.mem_nil_iff,or_false] at hd
 rcases hd with rfl | rfl | rfl | rfl | rfl | rfl | rfl | rfl | rfl | rfl | rfl | rfl | rfl | rfl | rfl | rfl | rfl | rfl | rfl | rfl | rfl | rfl
 ·exact sn (m:=121928) (aV.tup (aV.cons (l:=121925) (yG _ hl hk) (aV.cons (l:=1923) DW (aV.nil (m:=0)) (by decide)) (by decide))) (cU (gW (by rw [List.length_map]; omega)) (fun t b z=>by cases z))
 ·exact sn (m:=121928) (aV.tup (aV.cons (l:=121925) (yG _ hl hk) (aV.cons (l:=1923) (rp (iZ.of (hb1.mono (by decide)))) (aV.nil (m:=0)) (by decide)) (by decide))) (cU (gW (by rw [List.length_map]; omega)) (fun t b z=>by cases z))
 ·exact sn (m:=123856) (aV.tup (aV.cons (l:=123853) (yG _ hl hk) (aV.cons (l:=3851) (aV.tup (aV.cons (l:=3846) (rp (iZ.of (hb1.mono (by decide)))) (aV.cons (l:=1923) (rp (by unfold iZ; decide)) (aV.nil (m:=0)) (by decide)) (by decide))) (aV.nil (m:=0)) (by decide)) (by decide))) (cU (gW (by rw [List.length_map]; omega)) (iJ (hb1.mono (by decide)) (by unfold B; decide)))
 ·exact sn (m:=1921) DW (fun y z e=>by cases e)
 ·exact sn (m:=123856) (aV.tup (aV.cons (l:=123853) (yG _ hl hk) (aV.cons (l:=3851) (aV.lst (aV.cons (l:=3846) (rp (iZ.of (hb1.mono (by decide)))) (aV.cons (l:=1923) (rp (iZ.of (hb2.mono (by decide)))) (aV.nil (m:=0)) (by decide)) (by decide))) (aV.nil (m:=0)) (by decide)) (by decide))) (cU (gW (by rw [List.length_map]; omega)) (fun t b z=>by cases z))
 ·exact sn (m:=124007) (aV.tup (aV.cons (l:=124004) (Ec _ hl hk) (aV.cons (l:=4002) (fZ _ hb1 hb2) (aV.nil (m:=0)) (by decide)) (by decide))) (cU (fun ds z=>by cases z) (iJ (hb1.mono (by decide)) (hb2.mono (by decide))))
 ·exact sn (m:=120005) (aV.tup (aV.cons (l:=120002) (yG _ hl hk) (aV.nil (m:=0)) (by decide))) (fun y z e=>by cases e)
 ·exact sn (m:=125930) (aV.tup (aV.cons (l:=125927) (yG _ hl hk) (aV.cons (l:=5925) (fZ _ hb1 hb2) (aV.cons (l:=1923) (rp (by unfold iZ; decide)) (aV.nil (m:=0)) (by decide)) (by decide)) (by decide))) (fun y z e=>by cases e)
 ·exact sn (m:=124007) (aV.lst (aV.cons (l:=124004) (yG _ hl hk) (aV.cons (l:=4002) (fZ _ hb1 hb2) (aV.nil (m:=0)) (by decide)) (by decide))) (fun y z e=>by cases e)
 ·exact sn (m:=124007) (aV.tup (aV.cons (l:=124004) (fZ _ hb1 hb2) (aV.cons (l:=120002) (yG _ hl hk) (aV.nil (m:=0)) (by decide)) (by decide))) (cU (gW (by show 2 < 64; decide)) (En hk))
 ·exact sn (m:=124007) (aV.tup (aV.cons (l:=124004) (DV _ hl hk) (aV.cons (l:=4002) (fZ _ hb1 hb2) (aV.nil (m:=0)) (by decide)) (by decide))) (cU (gW (by simp; omega)) (iJ (hb1.mono (by decide)) (hb2.mono (by decide))))
 ·exact sn (m:=124007) (aV.tup (aV.cons (l:=124004) (Ew _ hl hk) (aV.cons (l:=4002) (fZ _ hb1 hb2) (aV.nil (m:=0)) (by decide)) (by decide))) (cU (gW (by simp; omega)) (iJ (hb1.mono (by decide)) (hb2.mono (by decide))))
 ·exact sn (m:=5933) (aV.tup (aV.cons (l:=5930) (aV.tup (aV.cons (l:=1923) (EW _) (aV.nil (m:=0)) (by decide))) (aV.cons (l:=4002) (fZ _ hb1 hb2) (aV.nil (m:=0)) (by decide)) (by decide))) (cU (gW (by show 1 < 64; decide)) (iJ (hb1.mono (by decide)) (hb2.mono (by decide))))
 ·exact sn (m:=7856) (aV.tup (aV.cons (l:=7853) (aV.tup (aV.cons (l:=3846) (rp (by unfold iZ; decide)) (aV.cons (l:=1923) (rp (by unfold iZ; decide)) (aV.nil (m:=0)) (by decide)) (by decide))) (aV.cons (l:=4002) (fZ _ hb1 hb2) (aV.nil (m:=0)) (by decide)) (by decide))) (cU (gW (by show 2 < 64; decide)) (iJ (hb1.mono (by decide)) (hb2.mono (by decide))))
 ·exact sn (m:=7856) (aV.tup (aV.cons (l:=7853) (aV.tup (aV.cons (l:=3846) (rp (by unfold iZ; decide)) (aV.cons (l:=1923) (rp (by unfold iZ; decide)) (aV.nil (m:=0)) (by decide)) (by decide))) (aV.cons (l:=4002) (fZ _ hb1 hb2) (aV.nil (m:=0)) (by decide)) (by decide))) (cU (gW (by show 2 < 64; decide)) (iJ (hb1.mono (by decide)) (hb2.mono (by decide))))
 ·exact sn (m:=5928) (aV.tup (aV.cons (l:=5925) (Df _) (aV.cons (l:=4002) (fZ _ hb1 hb2) (aV.nil (m:=0)) (by decide)) (by decide))) (cU (fun ds z=>by cases z) (iJ (hb1.mono (by decide)) (hb2.mono (by decide))))
 ·exact sn (m:=5933) (aV.tup (aV.cons (l:=5930) (aV.tup (aV.cons (l:=1923) (DU _) (aV.nil (m:=0)) (by decide))) (aV.cons (l:=4002) (fZ _ hb1 hb2) (aV.nil (m:=0)) (by decide)) (by decide))) (cU (gW (by show 1 < 64; decide)) (iJ (hb1.mono (by decide)) (hb2.mono (by decide))))
 ·exact sn (m:=5928) (aV.tup (aV.cons (l:=5925) DW (aV.cons (l:=4002) (fZ _ hb1 hb2) (aV.nil (m:=0)) (by decide)) (by decide))) (cU (fun ds z=>by cases z) (iJ (hb1.mono (by decide)) (hb2.mono (by decide))))
 ·exact sn (m:=5928) (aV.tup (aV.cons (l:=5925) (rp (by unfold iZ; decide)) (aV.cons (l:=4002) (fZ _ hb1 hb2) (aV.nil (m:=0)) (by decide)) (by decide))) (cU (fun ds z=>by cases z) (iJ (hb1.mono (by decide)) (hb2.mono (by decide))))
 ·exact sn (m:=123856) (aV.tup (aV.cons (l:=123853) (yG _ hl hk) (aV.cons (l:=3851) (aV.tup (aV.cons (l:=3846) (EW _) (aV.cons (l:=1923) (rp (by unfold iZ; decide)) (aV.nil (m:=0)) (by decide)) (by decide))) (aV.nil (m:=0)) (by decide)) (by decide))) (cU (gW (by rw [List.length_map]; omega)) (fun t b z=>by cases z))
 ·exact sn (m:=5938) (aV.tup (aV.cons (l:=5935) (aV.tup (aV.cons (l:=1928) (aV.lst (aV.cons (l:=1923) (rp (by unfold iZ; decide)) (aV.nil (m:=0)) (by decide))) (aV.nil (m:=0)) (by decide))) (aV.cons (l:=4002) (fZ _ hb1 hb2) (aV.nil (m:=0)) (by decide)) (by decide))) (cU (gW (by show 1 < 64; decide)) (iJ (hb1.mono (by decide)) (hb2.mono (by decide))))
 ·exact sn (m:=5933) (aV.tup (aV.cons (l:=5930) (aV.tup (aV.cons (l:=1923) Fi (aV.nil (m:=0)) (by decide))) (aV.cons (l:=4002) (fZ _ hb1 hb2) (aV.nil (m:=0)) (by decide)) (by decide))) (cU (gW (by show 1 < 64; decide)) (iJ (hb1.mono (by decide)) (hb2.mono (by decide))))
def spOdd:Sp:=fun vs H Q _=>∃ (r:Addr)(y:V)(p:Int)(t:Tm),vs=[.ref r,y]∧aU H r∧xP H y t∧xc p t∧∀ y H' d,aU H' r->SameBut r H H'->Dt (fun a=>H a=none) H' d y->So 4 200000 d->i5 d->Q y H'
theorem iP:FnScope ["_law_room_here","_law_term","_law_product","_law_number_here","_law_some"] ["_law_room_here","_law_term"] (ar DC):=eO (by decide +kernel)
theorem Cp {f ft:Addr}{fd fdt:FuncData}(F:Fun K "_law_odd" "_law_odd" DC f fd)(m_list:mg "list"=none)
 (FT:FnOk P w K mg base (bz P w) 1 ft fdt ["_law_room_here","_law_many"] spTake)(bT:L2.aH K fdt ["_law_room_here","_law_many"] [])(mT:mg "_law_take"=some (.ref ft))(kT:keepIn K (.ref ft)=true):
 FnOk P w K mg base (bz P w) 2 f fd ["_law_room_here","_law_term"] spOdd:=by
 refine F.okN iP (fun vs H Q E h=>?_) (fun cdv A outer s H vs Q E hr h=>?_)
 ·obtain ⟨r,y,p,t,rfl,_⟩:=h
  rfl
 ·obtain ⟨r,y,p,⟨ks,t,b⟩,rfl,hR,⟨a,pr,nu,rfl,ha,hpr0,hnu0⟩,⟨⟨_,hb1,hb2⟩,_,hk,hl⟩,q⟩:=h
  have hl:ks.length≤60:=hl
  have hk:∀ k∈ks,0≤k∧k < 60:=hk
  have hr1:Room 1 _:=hr.mono (by decide)
  refine ⟨_,(ao (ij (pv 1) (dX rfl (bo (aR (i:=2) iP.nd rfl (Or.inl rfl)) (bo (aR (i:=3) iP.nd rfl (Or.inl rfl)) c0))))
   (ao (@aS _ _ 4 _ _ _ _ iP.nd rfl (Or.inl rfl) (@bM _ _ _ _ (@aj _ _ _ _ _ (@aC _ _ _ _ _ (@aj _ _ _ _ _ (pv 2) (@aj _ _ _ _ _ eW ae rfl) rfl)) (@aj _ _ _ _ _ (@aC _ _ _ _ _ (@aj _ _ _ _ _ (pv 2) (@aj _ _ _ _ _ (@aQ _ _ _ _ _ _ _ aY (pv 3) ai (fun _ _=>rfl)) ae rfl) rfl)) (@aj _ _ _ _ _ (@aC _ _ _ _ _ (@aj _ _ _ _ _ (pv 2) (@aj _ _ _ _ _ (@aC _ _ _ _ _ (@aj _ _ _ _ _ (@aQ _ _ _ _ _ _ _ aY (pv 3) ai (fun _ _=>rfl)) (@aj _ _ _ _ _ ai ae rfl) rfl)) ae rfl) rfl)) (@aj _ _ _ _ _ eW ae rfl) rfl) rfl) rfl)) rfl (Or.inl rfl))
   (ao (fU (om PySem.F.plainAttrs_list PySem.F.slot_list_append PySem.F.type_list_append fJ (pv 4) (@aj _ _ _ _ _ (@aC _ _ _ _ _ (@aj _ _ _ _ _ (pv 2) (@aj _ _ _ _ _ (@bM _ _ _ _ (@aj _ _ _ _ _ (@aQ _ _ _ _ _ _ _ aY (pv 3) ai (fun _ _=>rfl)) (@aj _ _ _ _ _ (@aQ _ _ _ _ _ _ _ aY (pv 3) ai (fun _ _=>rfl)) ae rfl) rfl)) ae rfl) rfl)) ae rfl)))
   (ao (@aS _ _ 4 _ _ _ _ iP.nd rfl (Or.inl rfl) (@aL _ _ _ _ _ _ _ _ iD (pv 4) (@bM _ _ _ _ (@aj _ _ _ _ _ (@aC _ _ _ _ _ (@aj _ _ _ _ _ (cE (show bU _ _ (nR K) from uT rfl) (by rfl) m_list (by rfl) (@aj _ _ _ _ _ (pv 2) ae rfl)) (@aj _ _ _ _ _ (pv 3) ae rfl) rfl)) (@aj _ _ _ _ _ (@aC _ _ _ _ _ (@aj _ _ _ _ _ (pv 2) ae rfl)) (@aj _ _ _ _ _ (@aC _ _ _ _ _ (@aj _ _ _ _ _ (pv 2) (@aj _ _ _ _ _ (pv 3) (@aj _ _ _ _ _ ai ae rfl) rfl) rfl)) (@aj _ _ _ _ _ (@bM _ _ _ _ (@aj _ _ _ _ _ (pv 2) (@aj _ _ _ _ _ (pv 3) ae rfl) rfl)) (@aj _ _ _ _ _ (@aC _ _ _ _ _ (@aj _ _ _ _ _ (pv 3) (@aj _ _ _ _ _ (pv 2) ae rfl) rfl)) ae rfl) rfl) rfl) rfl) rfl))) rfl (Or.inl rfl))
   (ao (@aS _ _ 4 _ _ _ _ iP.nd rfl (Or.inl rfl) (@aL _ _ _ _ _ _ _ _ iD (pv 4) (@bM _ _ _ _ (@aj _ _ _ _ _ (@aC _ _ _ _ _ (@aj _ _ _ _ _ (@aL _ _ _ _ _ _ _ _ sO (pv 2) (@aC _ _ _ _ _ (@aj _ _ _ _ _ ai ae rfl))) (@aj _ _ _ _ _ (pv 3) ae rfl) rfl)) (@aj _ _ _ _ _ (@aC _ _ _ _ _ (@aj _ _ _ _ _ (@aL _ _ _ _ _ _ _ _ sO (@aC _ _ _ _ _ (@aj _ _ _ _ _ (@aL _ _ _ _ _ _ _ _ rB ai ai) ae rfl)) (pv 2)) (@aj _ _ _ _ _ (pv 3) ae rfl) rfl)) (@aj _ _ _ _ _ (@aC _ _ _ _ _ (@aj _ _ _ _ _ (@aC _ _ _ _ _ (@aj _ _ _ _ _ c7 ae rfl)) (@aj _ _ _ _ _ (pv 3) ae rfl) rfl)) (@aj _ _ _ _ _ (@aC _ _ _ _ _ (@aj _ _ _ _ _ (@aC _ _ _ _ _ (@aj _ _ _ _ _ ai (@aj _ _ _ _ _ ai ae rfl) rfl)) (@aj _ _ _ _ _ (pv 3) ae rfl) rfl)) ae rfl) rfl) rfl) rfl))) rfl (Or.inl rfl))
   (ao (@aS _ _ 4 _ _ _ _ iP.nd rfl (Or.inl rfl) (@aL _ _ _ _ _ _ _ _ iD (pv 4) (@bM _ _ _ _ (@aj _ _ _ _ _ (@aC _ _ _ _ _ (@aj _ _ _ _ _ (@aC _ _ _ _ _ (@aj _ _ _ _ _ ai (@aj _ _ _ _ _ ai ae rfl) rfl)) (@aj _ _ _ _ _ (pv 3) ae rfl) rfl)) (@aj _ _ _ _ _ (@aC _ _ _ _ _ (@aj _ _ _ _ _ gr (@aj _ _ _ _ _ (pv 3) ae rfl) rfl)) (@aj _ _ _ _ _ (@aC _ _ _ _ _ (@aj _ _ _ _ _ (@aC _ _ _ _ _ (@aj _ _ _ _ _ gr ae rfl)) (@aj _ _ _ _ _ (pv 3) ae rfl) rfl)) (@aj _ _ _ _ _ (@aC _ _ _ _ _ (@aj _ _ _ _ _ eW (@aj _ _ _ _ _ (pv 3) ae rfl) rfl)) (@aj _ _ _ _ _ (@aC _ _ _ _ _ (@aj _ _ _ _ _ ai (@aj _ _ _ _ _ (pv 3) ae rfl) rfl)) ae rfl) rfl) rfl) rfl) rfl))) rfl (Or.inl rfl))
   (ao (@aS _ _ 4 _ _ _ _ iP.nd rfl (Or.inl rfl) (@aL _ _ _ _ _ _ _ _ iD (pv 4) (@bM _ _ _ _ (@aj _ _ _ _ _ (@aC _ _ _ _ _ (@aj _ _ _ _ _ (pv 2) (@aj _ _ _ _ _ (@aC _ _ _ _ _ (@aj _ _ _ _ _ c7 (@aj _ _ _ _ _ ai ae rfl) rfl)) ae rfl) rfl)) (@aj _ _ _ _ _ (@aC _ _ _ _ _ (@aj _ _ _ _ _ (@aC _ _ _ _ _ (@aj _ _ _ _ _ (@bM _ _ _ _ (@aj _ _ _ _ _ ai ae rfl)) ae rfl)) (@aj _ _ _ _ _ (pv 3) ae rfl) rfl)) (@aj _ _ _ _ _ (@aC _ _ _ _ _ (@aj _ _ _ _ _ (@aC _ _ _ _ _ (@aj _ _ _ _ _ oU ae rfl)) (@aj _ _ _ _ _ (pv 3) ae rfl) rfl)) ae rfl) rfl) rfl))) rfl (Or.inl rfl))
   (av (aD (@aQ _ _ _ _ _ _ _ bA (pv 4) (aB FT hr1 (by rfl) mT kT bT .nil ah (@aj _ _ _ _ _ (pv 0) (@aj _ _ _ _ _ ai ae rfl) rfl)) (fun _ _=>rfl))))))))))),?_⟩
  refine ⟨_,rfl,a,_,rfl,bf.of ha,rfl,_,_,rfl,_,_,rfl,rfl,?_⟩
  have hpr:H pr=some (.tup (ks.map V.int)):=hpr0
  have hnu:H nu=some (cj t b):=hnu0
  clear hpr0 hnu0
  have dp:∀ {F:Addr->Prop}{H:Hp},H pr=some (.tup (ks.map V.int))->Dt F H (dP ks) (.ref pr):=fun h=>AI h (eQ ks)
  have dn:∀ {F:Addr->Prop}{H:Hp},H nu=some (cj t b)->Dt F H (dN t b) (.ref nu):=fun h=>AI h (.cons (hX _) (.one (hX _)))
  have hP:Dt (fun _=>False) H (dP ks) (.ref pr):=dp hpr
  have hN:Dt (fun _=>False) H (dN t b) (.ref nu):=dn hnu
  dsimp only [uV,oO,bZ]
  refine nH (F:=fun _=>False) (af (ay (af (aK rfl hP) (af (aZ D5) ax))) (af (ay (af (aK rfl hP) (af (ie rfl hnu) ax))) (af (ay (af (aK rfl hP) (af (ay (af (ie rfl hnu) (af (aZ (hX _)) ax))) ax))) (af (aZ D5) ax)))) (by show 4≤100; decide) fun L vs H1 hL s1 eL hd=>?_
  clear hP hN
  have hpr1:=s1 _ _ hpr
  have hnu1:=s1 _ _ hnu
  have hd1:=ba.mono (G:=fun a=>H1 a=none) (fun a h=>h.elim) _ _ hd
  clear hd
  refine ⟨_,rfl,.inl ⟨rfl,_,br.of eL⟩,?_⟩
  have hF:∀ a,H1 a=none->H1 a=none:=fun _ h=>h
  have hP:Dt (fun a=>H1 a=none) H1 (dP ks) (.ref pr):=dp hpr1
  have hN:Dt (fun a=>H1 a=none) H1 (dN t b) (.ref nu):=dn hnu1
  have hnuq:=hnu
  clear hnu
  have hnu:=hnu1
  refine Br (F:=fun a=>H1 a=none) (ay (af (aK rfl hP) (af (iK (af (ie rfl hnu) (af (uy rfl hnu) ax)) hF) ax))) fun v H2 s2 hv=>⟨L,vs,v,rfl,rfl,s2 _ _ eL,?_,?_⟩
  ·rw [hd1.len]; show 4 < sizeLine; decide
  have eL2:=s2 _ _ eL
  have k3:aM (fun a=>H1 a=none) H2 (upd H2 L (.lst (vs++[v]))):=aM.put eL2 (by rw [eL]; intro z; cases z)
  have hd3:=ba.append (ba.keep ((aM.of s2).trans k3) _ _ hd1) (ba.one (Dt.keep k3 _ _ hv))
  have hd3:=ba.mono (G:=fun a=>H a=none) (fun a h=>none_of s1 h) _ _ hd3
  have hpr3:=k3.tup _ _ (s2 _ _ hpr1)
  have hnu3:=k3.tup _ _ (s2 _ _ hnu1)
  have eL3:upd H2 L (.lst (vs++[v])) L=some (.lst (vs++[v])):=ag
  have s03:aA H (upd H2 L (.lst (vs++[v]))):=fun c u e=>by
   rw [aq (au e hL)]
   exact s2 _ _ (s1 _ _ e)
  generalize upd H2 L (.lst (vs++[v]))=H3 at hd3 hpr3 hnu3 eL3 s03 ⊢
  generalize vs++[v]=vs3 at hd3 eL3 ⊢
  clear hP hN hF hnu hpr hnuq hd1 k3 hv eL2 hnu1 hpr1
  have hP:Dt (fun a=>H a=none) H3 (dP ks) (.ref pr):=dp hpr3
  have hN:Dt (fun a=>H a=none) H3 (dN t b) (.ref nu):=dn hnu3
  have hF:∀ a,H3 a=none->H a=none:=fun _ h=>none_of s03 h
  have hpr:=hpr3
  have hnu:=hnu3
  try dsimp only [uV,oO,bZ]
  refine nW (F:=fun a=>H a=none) (af (ay (af (nc hF rfl hpr) (af (aK rfl hN) ax))) (af (ay (af (aK rfl hP) ax)) (af (ay (af (aK rfl hP) (af (aK rfl hN) (af (aZ (hX _)) ax)))) (af (iK (af (aK rfl hP) (af (aK rfl hN) ax)) hF) (af (ay (af (aK rfl hN) (af (aK rfl hP) ax))) ax))))) rfl eL3 hd3 (by show 10≤100; decide) fun L4 vs4 H4 s4 eL4 hd4=>?_
  have hpr4:=s4 _ _ hpr3
  have hnu4:=s4 _ _ hnu3
  have s04:=s03.trans s4
  clear hP hN hF hpr hnu hd3 eL3
  have hP:Dt (fun a=>H a=none) H4 (dP ks) (.ref pr):=dp hpr4
  have hN:Dt (fun a=>H a=none) H4 (dN t b) (.ref nu):=dn hnu4
  have hF:∀ a,H4 a=none->H a=none:=fun _ h=>none_of s04 h
  have hpr:=hpr4
  have hnu:=hnu4
  try dsimp only [uV,oO,bZ]
  refine nW (F:=fun a=>H a=none) (af (ay (af (lO (aK rfl hP) (ay (af (aZ (hX _)) ax)) (by simp; omega)) (af (aK rfl hN) ax))) (af (ay (af (lO (ay (af uj ax)) (aK rfl hP) (by simp; omega)) (af (aK rfl hN) ax))) (af (ay (af (ay (af (aZ (EV _)) ax)) (af (aK rfl hN) ax))) (af (ay (af (ay (af (aZ (hX _)) (af (aZ (hX _)) ax))) (af (aK rfl hN) ax))) ax)))) rfl eL4 hd4 (by show 14≤100; decide) fun L5 vs5 H5 s5 eL5 hd5=>?_
  have hpr5:=s5 _ _ hpr4
  have hnu5:=s5 _ _ hnu4
  have s05:=s04.trans s5
  clear hP hN hF hpr hnu hd4 eL4
  have hP:Dt (fun a=>H a=none) H5 (dP ks) (.ref pr):=dp hpr5
  have hN:Dt (fun a=>H a=none) H5 (dN t b) (.ref nu):=dn hnu5
  have hF:∀ a,H5 a=none->H a=none:=fun _ h=>none_of s05 h
  have hpr:=hpr5
  have hnu:=hnu5
  try dsimp only [uV,oO,bZ]
  refine nW (F:=fun a=>H a=none) (af (ay (af (ay (af (aZ (hX _)) (af (aZ (hX _)) ax))) (af (aK rfl hN) ax))) (af (ay (af (aZ (ER _)) (af (aK rfl hN) ax))) (af (ay (af (ay (af (aZ (ER _)) ax)) (af (aK rfl hN) ax))) (af (ay (af (aZ D5) (af (aK rfl hN) ax))) (af (ay (af (aZ (hX _)) (af (aK rfl hN) ax))) ax))))) rfl eL5 hd5 (by show 19≤100; decide) fun L6 vs6 H6 s6 eL6 hd6=>?_
  have hpr6:=s6 _ _ hpr5
  have hnu6:=s6 _ _ hnu5
  have s06:=s05.trans s6
  clear hP hN hF hpr hnu hd5 eL5
  have hP:Dt (fun a=>H a=none) H6 (dP ks) (.ref pr):=dp hpr6
  have hN:Dt (fun a=>H a=none) H6 (dN t b) (.ref nu):=dn hnu6
  have hF:∀ a,H6 a=none->H a=none:=fun _ h=>none_of s06 h
  have hpr:=hpr6
  have hnu:=hnu6
  try dsimp only [uV,oO,bZ]
  refine nW (F:=fun a=>H a=none) (af (ay (af (aK rfl hP) (af (ay (af (aZ (EV _)) (af (aZ (hX _)) ax))) ax))) (af (ay (af (ay (af (iK (af (aZ (hX _)) ax) hF) ax)) (af (aK rfl hN) ax))) (af (ay (af (ay (af qr ax)) (af (aK rfl hN) ax))) ax))) rfl eL6 hd6 (by show 22≤100; decide) fun L7 vs7 H7 s7 eL7 hd7=>?_
  have hpr7:=s7 _ _ hpr6
  have hnu7:=s7 _ _ hnu6
  have s07:=s06.trans s7
  clear hP hN hF hpr hnu hd6 eL6
  refine ⟨_,rfl,_,rfl,?_⟩
  have R7:=hR.same s07
  obtain ⟨lq1,xq1,hq1,yq1,zq1⟩:=id R7
  refine ⟨_,lq1,xq1,22,rfl,hq1,yq1,zq1,by decide,by decide,fun z lp1 xp1 z0 z1 yp1 zp1=>?_⟩
  have R8:aU (upd H7 r (.lst [.int lp1,.int xp1])) r:=⟨lp1,xp1,ag,yp1,zp1⟩
  have sb8:SameBut r H7 (upd H7 r (.lst [.int lp1,.int xp1])):=SameBut.upd
  generalize upd H7 r (.lst [.int lp1,.int xp1])=H8 at R8 sb8 ⊢
  have hv:vs7.length=22:=hd7.len
  obtain ⟨x,ex,hx⟩:=mV (xs:=vs7) (z:=z) z0 (by omega)
  have nL:L7≠r:=fun e=>by
   obtain ⟨l,x,h,_⟩:=R7
   rw [e,h] at eL7
   cases eL7
   cases hv
  obtain ⟨d,hd,hdx⟩:=hd7.at hx
  refine ⟨L7,vs7,z,x,rfl,rfl,br.of (sb8 _ _ eL7 nL),ex,?_⟩
  obtain ⟨so,ni⟩:=zz hl hk hb1 hb2 d (List.mem_of_getElem? hd)
  refine q x H8 d R8 ((SameBut.of s07).trans sb8) (Dt.keep (aM.mono (aM.but R7 sb8) fun a h=>?_) _ _ hdx) so ni
  intro e
  have:H a=none:=h
  obtain ⟨l,x,h',_⟩:=hR
  rw [e,h'] at this
  cases this
end K04
namespace L2
open PySem PySem.Spec PyProof.Rows PySem.W
section
variable {X:Cx}{CX:CXT}{k:Nat}{f C:Addr}{fd:FuncData}{ps ks:List Str}{sp:Sp}{E:XK}{x:Str}{p pos:Pos}{e:Expr}{es:List Expr}{kws:List Keyword}{t tk:TA}{g:List Value->List Value->List Value}{gV:List V->List V->List V}
def zh (C:Addr)(sp:Sp)(gV:List V->List V->List V)(E:XK)(t tk:TA):TE:=fun σ H Q=>t σ H fun vs H0=>tk σ H0 fun zs H1=>∀ x dx,H1 x=none->H1 dx=none->dx≠x →
 sp (gV (.ref x :: vs) zs) (upd (upd H1 dx (.own x)) x (.ins C dx [])) (fun v H2=>v = .non∧Q (.ref x) H2) E
theorem uQ (M:Mk X.K C f)(F:FnOk X.prog X.w X.K X.mg X.base CX k f fd ps sp)(hr:Room (k + 1) X.A)(hg:Gl X x)(hm:X.mg x=some (.ref C))(hb:KBinds X.K fd ps ks g gV)(hx:cM CX X E)(ha:PA X (e :: es) t)(hkw:PK X kws tk)
 (hall:(backToKw pos (keywordEach kws X.env)).all (·.1.isSome)=true:=by rfl)(hks:(backToKw pos (keywordEach kws X.env)).filterMap (·.1)=ks:=by rfl)(hdb:(x == ("__debug__":Str))=false:=by decide)
 (hst:starEach (e :: es) X.env=(false,eval e X.env):: starEach es X.env:=by rfl)
 (hpl:((backTo pos (starEach (e :: es) X.env)).any (·.1) || (backToKw pos (keywordEach kws X.env)).any (·.1.isNone))=false:=by rfl):PE X (.Call (.Name x p) (e :: es) kws pos) (zh C sp gV E t tk):=by
 intro pins s σ H Q I h
 refine wpAny_Call_Name_kw (c4 I hg hm ?_ hdb)
 refine callWith_KW (first:=[]) (h₀:=X.base) I.ok.mod.kin M.kp hall (bH (ha pos pins s σ H _ I h) fun us s0 ⟨vs,H0,I0,r,q0⟩=>?_) hpl hst
 refine bH (hkw pos pins s0 σ H0 _ I0 q0) fun ws s1 ⟨zs,H1,I1,rz,q⟩=>⟨I1.kIn,?_⟩
 rw [hks]
 have hq:=q (s1.heap.objs.size + 1) s1.heap.objs.size (I1.hok.fresh (Nat.le_succ _)) (I1.hok.fresh (Nat.le_refl _)) (Nat.ne_of_lt (Nat.lt_succ_self _))
 have I2:=Inv.made (C:=C) I1
 have r2:aG (gV (V.ref (s1.heap.objs.size + 1):: vs) zs) (g (Value.ref (s1.heap.objs.size + 1):: us) ws):=hb.rel (.cons rfl r) rz
 have hl:(g (Value.ref (s1.heap.objs.size + 1):: us) ws).length=ps.length:=by rw [← r2.length]; exact F.len _ _ _ _ hq
 refine wpAny_call (gY (f:=f) I1.kIn M.makes M.init (beq_iff_eq.mp M.fn) (codeAny_mono (F.run _ X.stack _ _ ⟨Value.ref (s1.heap.objs.size + 1):: us,ks.zip ws⟩ _ _ _ E (hr.make C us (ks.zip ws))
  (I2.env0.make C us (ks.zip ws)) (hb.to _ (Value.ref (s1.heap.objs.size + 1):: us) ws I2.kIn hl) r2 hq) fun r s' hq'=>?_))
 cases r with
 | error e=>exact hx pins σ _ _ e s' I2 hq'
 | ok fl =>
   cases fl with
   | ret u =>
     obtain ⟨v,H',I3,rv,ev,q3⟩:=I2.after hq'
     subst ev
     exact ⟨rv,⟨V.ref (s1.heap.objs.size + 1),H',I3,rfl,q3⟩⟩
   | next=>exact False.elim hq'
   | brk=>exact False.elim hq'
   | cont=>exact False.elim hq'
end
end L2
namespace K04
open PySem L2 PySem.W Nm Srt
abbrev qZ:Stmt:=(bt 49)
theorem yX {d:List Tm}(nd:(d.map (·.1)).Nodup):(fh d).Pairwise fun a b=>a.1.length≤b.1.length:=by
 unfold fh
 have nd2:((((d.filter fun e=>e.2.1 != 0).map fun e=>(c5 e,e))).map (·.1)).Nodup:=by
  rw [List.map_map]
  have h1:((d.filter fun e=>e.2.1 != 0).map (·.1)).Nodup:=nd.sublist (List.Sublist.map _ List.filter_sublist)
  have:((fun x:Ky × Tm=>x.1) ∘ fun e:Tm=>(c5 e,e))=fun e=>c5 e:=rfl
  rw [this]
  unfold List.Nodup at h1 ⊢
  rw [List.pairwise_map] at h1 ⊢
  exact h1.imp fun h z=>h (by unfold c5 at z; injection z)
 have up:=kj nd2
 rw [List.pairwise_map]
 have mem:∀ x∈cK ((d.filter fun e=>e.2.1 != 0).map fun e=>(c5 e,e)),x.1=c5 x.2:=fun x hx=>by
  have:=(cu _).mem_iff.mp hx
  obtain ⟨e,_,rfl⟩:=List.mem_map.mp this
  rfl
 unfold AQ at up
 refine List.Pairwise.imp_of_mem (fun {a b} ha hb h=>?_) up
 rw [mem a ha,mem b hb] at h
 unfold jJ c5 at h
 dsimp only at h
 split at h
 ·rename_i e
  exact Nat.le_of_eq (by exact_mod_cast e)
 ·have:=of_decide_eq_true h
  omega
theorem uK (d:List Tm):(fh d).length≤d.length:=by
 unfold fh
 rw [List.length_map,(cu _).length_eq,List.length_map]
 exact List.length_filter_le _ _
theorem Ad {ts:List Tm}(up:ts.Pairwise fun a b=>a.1.length≤b.1.length){m:Int}(hm:m∈(ts.map fun t:Tm=>(t.1.length:Int))++[0])(hx:∀ a∈(ts.map fun t:Tm=>(t.1.length:Int))++[0],a≤m):m=(uJ ts:Int):=by
 cases hl:ts.getLast? with
 | none =>
   have e:ts=[]:=List.getLast?_eq_none_iff.mp hl
   subst e
   have:m=0:=by simpa using hm
   rw [this]
   rfl
 | some t =>
   have ed:uJ ts=t.1.length:=by unfold uJ; rw [hl]; rfl
   rw [ed]
   have tm:t∈ts:=List.mem_of_getLast? hl
   have h1:=hx (t.1.length:Int) (List.mem_append.mpr (.inl (List.mem_map.mpr ⟨t,tm,rfl⟩)))
   obtain ⟨ini,rfl⟩:∃ ini,ts=ini++[t]:=by
    obtain ⟨ys,h⟩:=List.getLast?_eq_some_iff.mp hl
    exact ⟨ys,h⟩
   obtain ⟨_,_,h2⟩:=List.pairwise_append.mp up
   rcases List.mem_append.mp hm with h | h
   ·obtain ⟨u,hu,rfl⟩:=List.mem_map.mp h
    rcases List.mem_append.mp hu with hu | hu
    ·have:=h2 u hu t (by simp)
     omega
    ·have:u=t:=by simpa using hu
     subst this
     rfl
   ·have:m=0:=by simpa using h
    omega
def uE (t:Tm):D:=.tup [.tup (t.1.map D.int),.tup [.int t.2.1,.int t.2.2]]
theorem mZ {K:Frag}{H:Hp}{y:V}{t:Tm}(h:xP H y t):aN K H (uE t) y:=by
 obtain ⟨a,pr,nu,rfl,ha,hpr,hnu⟩:=h
 unfold uE aN
 refine ⟨a,_,rfl,bf.of ha,?_⟩
 unfold bF
 refine ⟨_,_,rfl,(by unfold aN; exact ⟨pr,_,rfl,bf.of hpr,cV _⟩),?_⟩
 unfold bF
 refine ⟨_,_,rfl,Bk hnu,?_⟩
 unfold bF
 rfl
theorem p0 {K:Frag}{H:Hp}:∀ {ys:List V}{ts:List Tm},bh H ys ts->bF K H (ts.map uE) ys
 | _,_,.nil=>by unfold bF; rfl
 | _,_,.cons (b:=t) h r=>by
   show bF K H (uE t :: _) _
   unfold bF
   exact ⟨_,_,rfl,mZ h,p0 r⟩
theorem m9:∀ ts:List Tm,dC (ts.map uE)≤2
 | []=>by unfold dC; decide
 | t :: ts=>by
   show dC (uE t :: ts.map uE)≤2
   unfold dC
   have:=m9 ts
   have h:i4 (uE t)=2:=by
    unfold uE i4 dC dC dC
    rw [CK,show i4 (.tup (t.1.map D.int))=1 from by unfold i4; rw [ib]]
    rfl
   omega
theorem gK {K:Frag}{H:Hp}{a:Addr}{ys:List V}{ts:List Tm}(e:H a=some (.lst ys))(h:bh H ys ts):aN K H (.lst (ts.map uE)) (.ref a):=by
 unfold aN
 exact ⟨a,ys,rfl,br.of e,p0 h⟩
theorem rV (ts:List Tm):i4 (.lst (ts.map uE))≤32:=by
 unfold i4
 have:=m9 ts
 omega
theorem zb {K:Frag}{C:Addr}:notFirst K C (.ref C)=true:=by unfold notFirst; simp
def DI:List Value->List Value->List Value
 | [a,b],[c]=>[a,b,c]
 | _,_=>[]
def g21V:List V->List V->List V
 | [a,b],[c]=>[a,b,c]
 | _,_=>[]
theorem zf:∀ {vs:List V}{us:List Value}{zs:List V}{ws:List Value},aG vs us->aG zs ws->aG (g21V vs zs) (DI us ws)
 | _,_,_,_,.nil,_=>.nil
 | _,_,_,_,.cons r .nil,_=>.nil
 | _,_,_,_,.cons r (.cons q .nil),.nil=>.nil
 | _,_,_,_,.cons r (.cons q .nil),.cons z .nil=>.cons r (.cons q (.cons z .nil))
 | _,_,_,_,.cons r (.cons q .nil),.cons z (.cons _ _)=>.nil
 | _,_,_,_,.cons r (.cons q (.cons _ _)),_=>.nil
theorem ze {us ws:List Value}(h:(DI us ws).length=3):∃ a b c,us=[a,b]∧ws=[c]:=by
 unfold DI at h
 split at h
 ·exact ⟨_,_,_,rfl,rfl⟩
 ·cases h
def sJ (CF:Addr):Sp:=fun vs H Q _=>∃ (fl dxf l:Addr)(p:Int)(ys:List V)(ts:List Tm),vs=[.ref fl,.int p,.ref l]∧H fl=some (.ins CF dxf (dD p))∧FP p∧H l=some (.lst ys)∧bh H ys ts∧ts.length≤8∧(∀ t∈ts,xc p t)∧∀ H',aA H H'->Q (.bl true) H'
theorem fK:FnScope ["_law_own","_law_prime_here","_law_some","_law_due","_law_handed","_law_one","_law_found","_law_most"] ["_law_own","_law_prime_here","_law_some"] (ar qZ):=eO (by decide +kernel)
theorem xc.ok {p:Int}{t:Tm}(h:xc p t):Gn p 45 t.2∧Ah t.1:=⟨h.1,kh h.2.1 h.2.2.1 (Nat.lt_of_le_of_lt h.2.2.2 (by decide))⟩
variable {P:Program}{w:World}{K:PySem.W.Frag}{mg:Str->Option Value}{base:Heap}
structure AllR (P:Program)(w:World)(K:PySem.W.Frag)(mg:Str->Option Value)(base:Heap)(C CF CN fI:Addr)(fdI:FuncData):Prop where
 c:SumK K mg C
 cF:FieldK K mg CF
 M:Mk K C fI
 FI:FnOk P w K mg base (bz P w) 6 fI fdI ["self","field","terms"] (eV C CF CN)
 bIK:KBinds K fdI ["self","field","terms"] ["terms"] DI g21V
 lg:∃ f fd,FnOk P w K mg base (bz P w) 4 f fd ["_law_prime_here","_law_some"] spLGath∧L2.aH K fd ["_law_prime_here","_law_some"] []∧mg "_law_gather"=some (.ref f)∧keepIn K (.ref f)=true
 lw:∃ f fd,FnOk P w K mg base (bz P w) 1 f fd ["_law_thing"] spWhole∧L2.aH K fd ["_law_thing"] []∧mg "_law_whole"=some (.ref f)∧keepIn K (.ref f)=true
 sf:∃ f fd,FnOk P w K mg base (bz P w) 1 f fd ["self"] (pS C CF)∧L2.aH K fd ["self"] []∧L2.Meth K C "field" f
 st:∃ f fd,FnOk P w K mg base (bz P w) 1 f fd ["self"] (p9 C CF)∧L2.aH K fd ["self"] []∧L2.Meth K C "terms" f
 sd:∃ f fd,FnOk P w K mg base (bz P w) 1 f fd ["self"] (wW C)∧L2.aH K fd ["self"] []∧L2.Meth K C "degree" f
 ln:∃ f fd,FnOk P w K mg base (bz P w) 1 f fd ["self"] (yF C)∧L2.aH K fd ["self"] []∧findIn K (.ref C) "__len__"=some (some (.ref f))∧isFn K (.ref f)=true
 eq:∃ f fd,FnOk P w K mg base (bz P w) 1 f fd ["self","other"] (CT CF)∧L2.aH K fd ["self","other"] []∧findIn K (.ref CF) "__eq__"=some (some (.ref f))∧isFn K (.ref f)=true
 ne:findIn K (.ref CF) "__ne__"=some (some (.builtin "object.__ne__"))
 list:mg "list"=none
 len:mg "len"=none
 max:mg "max"=none
set_option maxHeartbeats 1000000 in
theorem ym {f C CF CN fI:Addr}{fd fdI:FuncData}(F:Fun K "_law_right" "_law_right" qZ f fd)(T:AllR P w K mg base C CF CN fI fdI):FnOk P w K mg base (bz P w) 8 f fd ["_law_own","_law_prime_here","_law_some"] (sJ CF):=by
 refine F.okN fK (fun vs H Q E h=>?_) (fun cdv A outer s H vs Q E hr h=>?_)
 ·obtain ⟨fl,dxf,l,p,ys,ts,rfl,_⟩:=h
  rfl
 ·obtain ⟨fl,dxf,l,p,ys,ts,rfl,hf,hp,hl,ht,h8,tg,q⟩:=h
  have hr7:Room 7 _:=hr.mono (by decide)
  have hr4:Room 4 _:=hr.mono (by decide)
  have hr2:Room 2 _:=hr.mono (by decide)
  have hr1:Room 1 _:=hr.mono (by decide)
  obtain ⟨fG,fdG,FG,bG,mG,kG⟩:=T.lg
  obtain ⟨fW,fdW,FW,bW,mW,kW⟩:=T.lw
  obtain ⟨fSf,fdSf,FSf,bSf,mSf⟩:=T.sf
  obtain ⟨fSt,fdSt,FSt,bSt,mSt⟩:=T.st
  obtain ⟨fSd,fdSd,FSd,bSd,mSd⟩:=T.sd
  obtain ⟨fL,fdL,FL,bL,nL,iL⟩:=T.ln
  obtain ⟨fE,fdE,FE,bE,nE,iE⟩:=T.eq
  refine ⟨_,(ao (@aS _ _ 3 _ _ _ _ fK.nd rfl (Or.inl rfl) (aB FG hr4 (by rfl) mG kG bG .nil ah (@aj _ _ _ _ _ (pv 1) (@aj _ _ _ _ _ (pv 2) ae rfl) rfl)) rfl (Or.inl rfl))
   (ao (@aS _ _ 4 _ _ _ _ fK.nd rfl (Or.inl rfl) (cE cL (by rfl) T.list (by rfl) (@aj _ _ _ _ _ (pv 2) ae rfl)) rfl (Or.inl rfl))
   (ao (@aS _ _ 5 _ _ _ _ fK.nd rfl (Or.inl rfl) (uQ T.M T.FI hr7 (by rfl) T.c.mgC T.bIK ah (@aj _ _ _ _ _ (pv 0) ae rfl) (nK (pv 4) xV)) rfl (Or.inl rfl))
   (ao (@aS _ _ 6 _ _ _ _ fK.nd rfl (Or.inl rfl) (cP (pv 5) T.c.cl mSt FSt hr1 bSt .nil ah) rfl (Or.inl rfl))
   (ao (bJ (PW.pt (cH (@aJ _ _ _ _ _ _ _ _ (j7 hr) (pv 6) (pv 3) (aI _)) (cH (@aJ _ _ _ _ _ _ _ _ dI (az (ff nL iL FL hr2 bL ah) (by rfl) T.len (by rfl) (@aj _ _ _ _ _ (pv 5) ae rfl)) (az a9 (by rfl) T.len PySem.boot_len (@aj _ _ _ _ _ (pv 3) ae rfl)) (aI _)) (de (@aJ _ _ _ _ _ _ _ _ (vT nE iE T.ne T.cF.ob FE hr2 bE ah) (cP (pv 5) T.c.cl mSf FSf hr1 bSf .nil ah) (pv 0) (aI _)))))) (av (aD c7)) aO)
   (ao (fU (om PySem.F.plainAttrs_list PySem.F.slot_list_append PySem.F.type_list_append fJ (pv 6) (@aj _ _ _ _ _ eW ae rfl)))
   (ao (fU (om PySem.F.plainAttrs_list PySem.F.slot_list_append PySem.F.type_list_append fJ (pv 4) (@aj _ _ _ _ _ (@aC _ _ _ _ _ (@aj _ _ _ _ _ (@aC _ _ _ _ _ (@aj _ _ _ _ _ ai ae rfl)) (@aj _ _ _ _ _ (@aC _ _ _ _ _ (@aj _ _ _ _ _ ai (@aj _ _ _ _ _ ai ae rfl) rfl)) ae rfl) rfl)) ae rfl)))
   (ao (fU (om PySem.F.plainAttrs_list PySem.F.slot_list_pop PySem.F.type_list_pop wC (pv 4) (@aj _ _ _ _ _ ai ae rfl)))
   (ao (@aS _ _ 7 _ _ _ _ fK.nd rfl (Or.inl rfl) (az (uS rfl) (by rfl) T.max (by rfl) (@aj _ _ _ _ _ (@aL _ _ _ _ _ _ _ _ iD (dJ (g:=nv K 2 (cS (bZ 0) (cS (bZ 1) gNil))) (N:=["_law_product","_law_number_here"]) (nl:=2) (js:=[]) (osc:=ar qZ) ⟨rfl,rfl,by decide +kernel,by decide +kernel,by decide +kernel,rfl,.nil,by decide +kernel⟩ rfl
    (gF (pv 3))
    (fun C fp s H=>(dX (X:=eN _ ["_law_product","_law_number_here"] _ C fp s H) rfl (bo (aR (X:=eN _ ["_law_product","_law_number_here"] _ C fp s H) (i:=0) (by show (["_law_product","_law_number_here"]:List Str).Nodup; decide +kernel) rfl (Or.inl rfl) (Or.inr rfl)) (bo (aR (X:=eN _ ["_law_product","_law_number_here"] _ C fp s H) (i:=1) (by show (["_law_product","_law_number_here"]:List Str).Nodup; decide +kernel) rfl (Or.inl rfl) (Or.inr rfl)) c0))))
    (fun C fp s H=>gM)
    (fun C fp s H=>(az (show bU _ _ (tZ K) from vG rfl) (by rfl) T.len PySem.boot_len (@aj _ _ _ _ _ (pv 0) ae rfl)))) (@bM _ _ _ _ (@aj _ _ _ _ _ ai ae rfl))) ae rfl)) rfl (Or.inl rfl))
   (av (aD (cW (@cw _ _ _ _ _ _ _ _ (xK hr) (cP (pv 5) T.c.cl mSt FSt hr1 bSt .nil ah) (pv 3) (aI _)) (cW (aB FW hr1 (by rfl) mW kW bW .nil ah (@aj _ _ _ _ _ (cP (pv 5) T.c.cl mSd FSd hr1 bSd .nil ah) ae rfl)) (dO (@cw _ _ _ _ _ _ _ _ dZ (cP (pv 5) T.c.cl mSd FSd hr1 bSd .nil ah) (pv 7) (aI _)))))))))))))))),?_⟩
  refine ⟨_,rfl,_,rfl,l,p,ys,ts,45,rfl,hp,hl,ht,by omega,fun t h=>(tg t h).1,by omega,by decide,fun H1 D zs s1 hD hz=>?_⟩
  obtain ⟨_,gnd,gl⟩:=fB hp ts.length ts rfl fun t h=>(tg t h).1
  have up:=yX gnd
  generalize etd:fh (aX p ts)=td at hz up
  refine ⟨_,rfl,l,_,rfl,.inl (br.of (s1 _ _ hl)),fun h hh=>?_⟩
  have hh0:H h=none:=none_of s1 hh
  have s2:=s1.trans (ak (o:=.lst ys) hh)
  have eh:upd H1 h (.lst ys) h=some (.lst ys):=ag
  have hD2:=(ak (o:=.lst ys) hh) _ _ hD
  have hz2:=bh.keep hz (aF.of (ak (o:=.lst ys) hh))
  have nDh:D≠h:=au hD hh
  generalize upd H1 h (.lst ys)=H2 at s2 eh hD2 hz2 ⊢
  clear hD hz hh s1
  refine ⟨_,rfl,_,rfl,fun x dx hx hdx ne=>?_⟩
  have hS:aA H2 (upd (upd H2 dx (.own x)) x (.ins C dx [])):=(ak hdx).trans (ak (by rw [aq (Ne.symm ne)]; exact hx))
  refine .inl ⟨x,dx,fl,dxf,p,.ref h,ts,45,rfl,ag,hS _ _ (s2 _ _ hf),hp,.inr ⟨h,ys,rfl,hS _ _ eh,bh.keep ht (aF.of (s2.trans hS))⟩,by omega,fun t h=>(tg t h).ok,by omega,by decide,fun H3 Z zs3 sb h0 hs3 hZ hz3=>⟨rfl,?_⟩⟩
  rw [etd] at hz3
  have s23:=fP hx hdx ne sb
  have nZh:Z≠h:=fun e=>by rw [e,hS _ _ eh] at h0; cases h0
  have s3:=s2.trans s23
  have eh3:=s23 _ _ eh
  have hD3:=s23 _ _ hD2
  have hzD3:=bh.keep hz2 (aF.of s23)
  clear sb h0 hS hx hdx
  refine ⟨_,rfl,x,dx,_,rfl,hs3,rfl,x,dx,fl,Z,zs3,rfl,hs3,hZ,fun g hg=>?_⟩
  have hg0:H g=none:=none_of s3 hg
  have s34:=ak (o:=.lst zs3) hg
  have eg:upd H3 g (.lst zs3) g=some (.lst zs3):=ag
  have nZg:Z≠g:=au hZ hg
  have nDg:D≠g:=au hD3 hg
  have nhg:h≠g:=au eh3 hg
  have s4:=s3.trans s34
  have hs4:=s34 _ _ hs3
  have hZ4:=s34 _ _ hZ
  have hz4:=bh.keep hz3 (aF.of s34)
  have eh4:=s34 _ _ eh3
  have hD4:=s34 _ _ hD3
  have hzD4:=bh.keep hzD3 (aF.of s34)
  generalize upd H3 g (.lst zs3)=H4 at s34 eg s4 hs4 hZ4 hz4 eh4 hD4 hzD4 ⊢
  have hf4:=s4 _ _ hf
  have l1:=hz4.length
  have l2:=hzD4.length
  have lt:td.length≤8:=by
   rw [← etd]
   exact Nat.le_trans (uK _) (Nat.le_trans gl h8)
  clear hs3 hZ hz3 eh3 hD3 hzD3 s34 hg s3 s2 s23
  refine ⟨_,rfl,_,rfl,_,_,gK eg hz4,gK hD4 hzD4,rV _,_,rfl,?_⟩
  rw [dz]
  refine cf ⟨_,rfl,x,dx,_,rfl,hs4,x,dx,fl,Z,zs3,rfl,hs4,hZ4,zs3.length,rfl,Nat.lt_of_le_of_lt (show zs3.length≤8 by omega) (by decide),_,rfl,D,_,rfl,.inl (br.of hD4),rfl,_,rfl,?_⟩
  rw [l1,l2]
  refine bQ (fun z=>absurd z (by simp)) fun _=>?_
  refine ⟨_,rfl,x,dx,_,rfl,hs4,rfl,x,dx,fl,Z,rfl,hs4,_,rfl,fl,dxf,_,.ref CF,rfl,hf4,T.cF.ty hf4,zb,fl,dxf,p,.ref fl,rfl,hf4,.inl ⟨fl,dxf,p,rfl,hf4,_,rfl,_,rfl,?_⟩⟩
  refine bQ (fun h=>absurd h (by simp)) (fun _=>?_)
  refine ⟨_,rfl,.inl ⟨rfl,_,br.of eg⟩,g,zs3,.non,rfl,rfl,eg,Nat.lt_of_le_of_lt (show zs3.length≤8 by omega) (by decide),?_⟩
  have k5:aM (fun a=>a=Z∨a=D∨a=h) H4 (upd H4 g (.lst (zs3++[.non]))):=aM.put eg fun z=>by
   rcases z with z | z | z
   ·exact nZg z.symm
   ·exact nDg z.symm
   ·exact nhg z.symm
  have s5:aA H (upd H4 g (.lst (zs3++[.non]))):=fun c u e=>by rw [aq (au e hg0)]; exact s4 _ _ e
  generalize upd H4 g (.lst (zs3++[.non]))=H5 at k5 s5 ⊢
  have eh5:=k5.lst (.inr (.inr rfl)) eh4
  have hs5:=k5.ins hs4
  have hZ5:=k5.lst (.inl rfl) hZ4
  have hD5:=k5.lst (.inr (.inl rfl)) hD4
  have hz5:=bh.keep hz4 k5.tup
  have hzD5:=bh.keep hzD4 k5.tup
  clear k5 eh4 hs4 hZ4 hD4 hz4 hzD4 eg hf4
  refine ⟨_,rfl,.inl ⟨rfl,_,br.of eh5⟩,AA,fun a1 h1=>?_⟩
  have q1:=ak (o:=.tup [.int 59]) h1
  generalize upd H5 a1 (.tup [.int 59])=J1 at q1 ⊢
  refine ⟨kQ,fun a2 h2=>?_⟩
  have q2:=q1.trans (ak (o:=.tup [.int 1,.int 1]) h2)
  generalize upd J1 a2 (.tup [.int 1,.int 1])=J2 at q2 ⊢
  refine ⟨kQ,fun a3 h3=>?_⟩
  have q3:=q2.trans (ak (o:=.tup [.ref a1,.ref a2]) h3)
  generalize upd J2 a3 (.tup [.ref a1,.ref a2])=J3 at q3 ⊢
  have ly:ys.length≤8:=by rw [ht.length]; exact h8
  refine ⟨h,ys,.ref a3,rfl,rfl,q3 _ _ eh5,Nat.lt_of_le_of_lt ly (by decide),?_⟩
  have k6:aM (fun a=>a=Z∨a=D) H5 (upd J3 h (.lst (ys++[.ref a3]))):=(aM.of q3).trans (aM.put (q3 _ _ eh5) fun z=>by
   rcases z with z | z
   ·exact nZh z.symm
   ·exact nDh z.symm)
  have s6:aA H (upd J3 h (.lst (ys++[.ref a3]))):=fun c u e=>by rw [aq (au e hh0)]; exact q3 _ _ (s5 _ _ e)
  have eh6:upd J3 h (.lst (ys++[.ref a3])) h=some (.lst (ys++[.ref a3])):=ag
  generalize upd J3 h (.lst (ys++[.ref a3]))=H6 at k6 s6 eh6 ⊢
  obtain ⟨y0,yr,e0⟩:∃ y0 yr,ys++[.ref a3]=y0 :: yr:=by
   cases ys with
   | nil=>exact ⟨_,_,rfl⟩
   | cons a b=>exact ⟨_,_,rfl⟩
  rw [e0] at eh6
  refine ⟨_,rfl,.inl ⟨rfl,_,br.of eh6⟩,h,_,0,0,y0,rfl,rfl,eh6,by decide,by decide,(by unfold seqIndex?; simp),rfl,?_⟩
  have k7:aM (fun a=>a=Z∨a=D) H6 (upd H6 h (.lst ((y0 :: yr).eraseIdx 0))):=aM.put eh6 fun z=>by
   rcases z with z | z
   ·exact nZh z.symm
   ·exact nDh z.symm
  have s7:aA H (upd H6 h (.lst ((y0 :: yr).eraseIdx 0))):=fun c u e=>by rw [aq (au e hh0)]; exact s6 _ _ e
  have k7:=k6.trans k7
  generalize upd H6 h (.lst ((y0 :: yr).eraseIdx 0))=H7 at k7 s7 ⊢
  have hs7:=k7.ins hs5
  have hZ7:=k7.lst (.inl rfl) hZ5
  have hD7:=k7.lst (.inr rfl) hD5
  have hz7:=bh.keep hz5 k7.tup
  have hzD7:=bh.keep hzD5 k7.tup
  clear k7 k6 hs5 hZ5 hD5 hz5 hzD5 eh5 eh6 s6 s5 q1 q2 q3 h1 h2 h3
  refine ⟨_,rfl,D,rfl,⟨zs,br.of hD7⟩,?_⟩
  refine vI (xs:=zs) (fun i us H'=>H7=H'∧us=((td.take i).map fun t:Tm=>(t.1.length:Int)).map V.int) ⟨rfl,rfl⟩ (fun i us H' hi h=>?_) (fun i v us H' hi hy h=>?_) (fun us H' h=>?_)
  ·obtain ⟨rfl,rfl⟩:=h
   exact ⟨Nat.lt_of_le_of_lt (show _≤8 by simp; omega) (by decide),br.of hD7⟩
  ·obtain ⟨rfl,rfl⟩:=h
   obtain ⟨t,et,at_,pr,nu,rfl,hat,hpr,hnu⟩:=b9 hzD7 hy
   have esn:td.take (i + 1)=td.take i++[t]:=by rw [List.take_add_one,et]; rfl
   refine ⟨at_,.ref pr,.ref nu,rfl,bf.of hat,fun N k=>CG ⟨_,rfl,pr,_,rfl,.inr (bf.of hpr),k _ _ ⟨rfl,?_⟩⟩⟩
   rw [esn,List.length_map]
   simp
  obtain ⟨rfl,rfl⟩:=h
  rw [l2,List.take_length]
  intro L hL
  have r1:=ak (o:=.lst ((td.map fun t:Tm=>(t.1.length:Int)).map V.int)) hL
  have eL:upd H7 L (.lst ((td.map fun t:Tm=>(t.1.length:Int)).map V.int)) L=some (.lst ((td.map fun t:Tm=>(t.1.length:Int)).map V.int)):=ag
  generalize upd H7 L _=J4 at r1 eL ⊢
  refine ⟨AA,fun L2 hL2=>?_⟩
  have r2:=ak (o:=.lst [.int 0]) hL2
  have eL2:upd J4 L2 (.lst [.int 0]) L2=some (.lst [.int 0]):=ag
  have eL':=r2 _ _ eL
  have r2:=r1.trans r2
  generalize upd J4 L2 _=J5 at r2 eL2 eL' ⊢
  refine ⟨L,L2,_,_,rfl,rfl,eL',eL2,Nat.le_trans (show _≤9 by simp; omega) (by decide),fun L3 hL3=>?_⟩
  have r3:=r2.trans (ak (o:=.lst ((td.map fun t:Tm=>(t.1.length:Int)).map V.int++[.int 0])) hL3)
  have eL3:upd J5 L3 (.lst ((td.map fun t:Tm=>(t.1.length:Int)).map V.int++[.int 0])) L3=some (.lst (((td.map fun t:Tm=>(t.1.length:Int))++[0]).map V.int)):=by rw [List.map_append]; exact ag
  generalize upd J5 L3 _=J6 at r3 eL3 ⊢
  refine ⟨L3,_,rfl,br.of eL3,by simp,fun m hm hx=>?_⟩
  have em:=Ad up hm hx
  subst em
  have hs8:=r3 _ _ hs7
  have hZ8:=r3 _ _ hZ7
  have hD8:=r3 _ _ hD7
  have hz8:=bh.keep hz7 (aF.of r3)
  have hzD8:=bh.keep hzD7 (aF.of r3)
  refine ⟨_,rfl,x,dx,_,rfl,hs8,rfl,x,dx,fl,Z,zs3,rfl,hs8,hZ8,fun g2 hg2=>?_⟩
  have r4:=ak (o:=.lst zs3) hg2
  refine ⟨_,rfl,_,_,gK ag (bh.keep hz8 (aF.of r4)),gK (r4 _ _ hD8) (bh.keep hzD8 (aF.of r4)),rV _,?_⟩
  rw [dz]
  have hs9:=r4 _ _ hs8
  have hZ9:=r4 _ _ hZ8
  have hz9:=bh.keep hz8 (aF.of r4)
  have s9:=s7.trans (r3.trans r4)
  generalize upd J6 g2 _=H9 at r4 hs9 hZ9 hz9 s9 ⊢
  refine ⟨true,rfl,bV ?_⟩
  refine ⟨_,rfl,x,dx,_,rfl,hs9,rfl,x,dx,fl,Z,zs3,td,rfl,hs9,hZ9,hz9,_,_,rfl,.int _,_,rfl,bV ?_⟩
  refine ⟨_,rfl,x,dx,_,rfl,hs9,rfl,x,dx,fl,Z,zs3,td,rfl,hs9,hZ9,hz9,_,rfl,rfl,?_⟩
  rw [decide_eq_true rfl]
  exact q _ s9
end K04
namespace L2
open PySem PySem.Spec PyProof.Rows PySem.W
section
variable {X:Cx}
def dR:Int->Nat->List Int
 | _,0=>[]
 | i,n + 1=>i :: dR (i + 1) n
theorem jo:∀ (n:Nat)(i:Int),(dR i n).length=n
 | 0,_=>rfl
 | n + 1,i=>by show (dR (i + 1) n).length + 1=n + 1; rw [jo n]
theorem kJ:∀ (n:Nat)(i x:Int),x∈dR i n->i≤x∧x < i + n
 | 0,i,x,h=>nomatch h
 | n + 1,i,x,h=>by
   rcases List.mem_cons.mp h with rfl | h
   ·omega
   ·have:=kJ n (i + 1) x h; omega
theorem sy:∀ (n:Nat)(i:Int),(dR i n).Pairwise (· < ·)
 | 0,_=>.nil
 | n + 1,i=>List.pairwise_cons.mpr ⟨fun x hx=>by have:=kJ n (i + 1) x hx; omega,sy n (i + 1)⟩
theorem pE:∀ (us:List Value)(i:Int),(∀ (j:Nat)(v:Value),us[j]?=some v->∃ t,v=Value.int (i + (j:Nat)) t)->aG ((dR i us.length).map V.int) us
 | [],_,_=>.nil
 | u :: us,i,h=>by
   obtain ⟨t,e⟩:=h 0 u rfl
   refine .cons ⟨t,by rw [e]; simp⟩ (pE us (i + 1) fun j v hv=>?_)
   obtain ⟨t,e⟩:=h (j + 1) v (by simpa using hv)
   refine ⟨t,?_⟩
   rw [e]
   congr 1
   omega
end
end L2
namespace PySem
open Sem (wp)
open AutoSeq1 (wpAny_loadPart')
section
variable {pg:Program}{wd:World}{Ar:Around}{Ex:Value->Shared->Prop}{sh:Shared}
theorem pV {Q:List Value->Shared->Prop}{r:Addr}{a b c:Int}{t u v:Tok}{n:Nat}(h0:Ar.handled=none)(hr:IsRange sh.heap r a b c t u v)(hsm:Builtin.Range.small a b c=true)(hn:Builtin.Range.rangeSize a b c=n)(hl:n≤2 ^ 24)
 (q:∀ h' tk acc,(∀ x o,sh.heap.get? x=some o->h'.get? x=some o)->ItemsOf (fun i v=>∃ t,v = .int (a + i * c) t) acc n->Q acc.toList { sh with heap:=h',toks:=tk }):wpAny (model pg wd) Ar (collect (.ref r)) Q Ex sh:=by
 unfold collect
 refine wpAny_bind (wpAny_runValue (codeAny_builtin F.entry_proto_collect ?g1))
 rw [Around.under_plainId F.plain_proto_collect _]
 refine (show wpAny _ Ar.in1 (newList [] >>= fun l=>again (.builtin "list.__iadd__" ⟨[l,.ref r],[]⟩)) _ _ sh from wpAny_bind (wpAny_newObj_type ?g2))
 refine wpAny_pure ⟨plainId_quiet F.plain_list_iadd _,codeAny_builtin F.entry_list_iadd ?g3⟩
 rw [Around.under_plainId F.plain_list_iadd _]
 refine (show wpAny _ Ar.in1 (Builtin.List.listExtendWith (.ref sh.heap.objs.size) (.ref r) (.ref sh.heap.objs.size)) _ _ _ from ?g4)
 have hS0:(sh.heap.push { cls:=.type "list",data:=.seq #[] }).get? sh.heap.objs.size=some { cls:=.type "list",data:=.seq #[] }:=Heap.get?_push_size _ rfl
 have fin:∀ h' tk acc c',(∀ x o,x≠sh.heap.objs.size->(sh.heap.push { cls:=.type "list",data:=.seq #[] }).get? x=some o->h'.get? x=some o)->h'.get? sh.heap.objs.size=some { cls:=.type "list",dict:=none,data:=.seq acc c',slots:=#[] }->ItemsOf (fun i v=>∃ t,v = .int (a + i * c) t) acc n →
  wpAny (model pg wd) Ar (do
   let o ← load sh.heap.objs.size
   match o.data with
   | .seq xs epoch=>pure xs.toList
   | x=>unsupported "internal:collect") Q Ex { sh with heap:=h',toks:=tk }:=fun h' tk acc c' hk hS hacc =>
  wpAny_bind (wpAny_load hS (wpAny_pure (q h' tk acc (fun x o e=>hk x o (Nat.ne_of_lt (Heap.lt_size e)) (Heap.get?_push_of_some _ e)) hacc)))
 refine wpAny_mono (wpAny_extend_range (A:=Ar) (R:=fun r s'=>∃ h' tk acc c',r = .ok (.ret (.ref sh.heap.objs.size))∧s'={ sh with heap:=h',toks:=tk }∧(∀ x o,x≠sh.heap.objs.size->(sh.heap.push { cls:=.type "list",data:=.seq #[] }).get? x=some o->h'.get? x=some o)∧h'.get? sh.heap.objs.size=some { cls:=.type "list",dict:=none,data:=.seq acc c',slots:=#[] }∧ItemsOf (fun i v=>∃ t,v = .int (a + i * c) t) acc n)
  (s:={ sh with heap:=sh.heap.push { cls:=.type "list",data:=.seq #[] } }) h0 (Heap.get?_push_of_some _ hr) hsm hn hl _ _ _ hS0 fun h' tk acc c' hk hS hacc=>⟨h',tk,acc,c',rfl,rfl,hk,hS,hacc⟩) (fun f s' hf=>?g5) (fun e s' hf=>?g6)
 ·cases f with
  | done f =>
    obtain ⟨h',tk,acc,c',e,rfl,hk,hS,hacc⟩:=hf
    cases e
    exact fin h' tk acc c' hk hS hacc
  | again c=>exact ⟨hf.1,codeAny_mono hf.2 fun r s2 hr=>by obtain ⟨h',tk,acc,c',rfl,rfl,hk,hS,hacc⟩:=hr; exact fin h' tk acc c' hk hS hacc⟩
 ·obtain ⟨h',tk,acc,c',e,_⟩:=hf
  cases e
end
theorem fY (r:Addr)(a b c:Int)(t u v:Tok)(n:Nat)(hsm:Builtin.Range.small a b c=true)(hn:Builtin.Range.rangeSize a b c=n)(hl:n≤2 ^ 24):
 Meets (Builtin.«tuple.__new__» ⟨[.type "tuple",.ref r],[]⟩)
  (fun A R s=>A.handled=none∧IsRange s.heap r a b c t u v∧∀ (h':Heap)(tk:Nat)(acc:Array Value),(∀ x o,s.heap.get? x=some o->h'.get? x=some o)->ItemsOf (fun i v=>∃ t,v = .int (a + i * c) t) acc n →
   R (.ok (.ret (.ref h'.objs.size))) { s with heap:=h'.push { cls:=.type "tuple",data:=.seq acc },toks:=tk }):=
 .of_wp fun prog w A R s hyp=>by
  obtain ⟨h0,hr,q⟩:=hyp
  have k1:=sub_tuple_self
  have k2:=init_tuple_lookup
  have k3:=madeHere_tuple
  have k4:s.TypeIs (.ref r) "range":=⟨_,hr,rfl⟩
  have h1:A.in1.handled=none:=h0
  wp_walk using wpAny_typeOf k4,pV h1 hr hsm hn hl
  intro h' tk acc hk hacc
  refine (show wpAny _ _ (Builtin.Tuple.tupleExact acc.toList.toArray >>= fun v=>ret v) _ _ _ from ?g1)
  unfold Builtin.Tuple.tupleExact
  have e:acc.toList.toArray=acc:=by simp
  rw [e]
  refine wpAny_bind (wpAny_newObj_type (wpAny_pure ⟨_,rfl,?g2⟩) (by show acc.size≤sizeLine; rw [hacc.1,sizeLine_eq]; exact hl))
  exact q h' tk acc hk hacc
section
variable {pg:Program}{wd:World}{Ar:Around}{Ex:Value->Shared->Prop}{sh:Shared}
theorem jr {Q:Value->Shared->Prop}{r:Addr}{a b c:Int}{t u v:Tok}{n:Nat}(h0:Ar.handled=none)(hr:IsRange sh.heap r a b c t u v)(hsm:Builtin.Range.small a b c=true)(hn:Builtin.Range.rangeSize a b c=n)(hl:n≤2 ^ 24)
 (q:∀ (h':Heap)(tk:Nat)(acc:Array Value),(∀ x o,sh.heap.get? x=some o->h'.get? x=some o)->ItemsOf (fun i v=>∃ t,v = .int (a + i * c) t) acc n->Q (.ref h'.objs.size) { sh with heap:=h'.push { cls:=.type "tuple",data:=.seq acc },toks:=tk }):
 wpAny (model pg wd) Ar (call (.type "tuple") [.ref r]) Q Ex sh:=by
 refine callType_new F.called_tuple (by decide) (F.typeCall_tuple_1 _) (F.newCall_tuple_1 _) (fun o=>F.args_object_init_2 o _) F.entry_tuple_new (fY r a b c t u v n hsm hn hl) ⟨h0,hr,fun h' tk acc hk hacc=>⟨⟨_,Heap.get?_push_size _ rfl,rfl⟩,q h' tk acc hk hacc⟩⟩
end
end PySem
namespace L2
open PySem PySem.Spec PyProof.Rows PySem.W
section
variable {X:Cx}
def sx (ta:TA):TE:=fun σ H Q=>ta σ H fun vs H1=>∃ j:Int,vs=[.int j]∧(-(2 ^ 62)≤j∧j < 2 ^ 62)∧j.toNat≤4000∧∀ D,H1 D=none->Q (.ref D) (upd H1 D (.tup ((dR 0 j.toNat).map V.int)))
theorem mr {a:Expr}{ta:TA}{p p2 pos pos2:Pos}(ha:PA X [a] ta)(hc:X.calm=true)(hgl:Gl X "tuple")(hml:X.mg "tuple"=none)(hgr:Gl X "range")(hmr:X.mg "range"=none)(hs:starEach [a] X.env=[(false,eval a X.env)]:=by rfl):
 PE X (.Call (.Name "tuple" p) [.Call (.Name "range" p2) [a] [] pos2] [] pos) (sx ta):=by
 intro pins s σ H Q I h
 refine wpAny_Call_Name_kw (dm I hgl hml (by rfl) ?_ (by decide) (by decide))
 refine callWith_type1 ?_ (bu rfl) rfl
 rw [bu rfl]
 show wpAny _ _ (spliced ((false,eval (.Call (.Name "range" p2) [a] [] pos2) X.env):: backTo pos (starEach [] X.env))) _ _ s
 refine Calls.spliced_cons ?_
 refine wpAny_Call_Name_kw (dm I hgr hmr boot_range ?_ (by decide) (by decide))
 refine callWith_type1 (bH (ha pos2 pins s σ H _ I h) fun us s1 ⟨vs,H1,I1,r1,q1⟩=>?_) hs rfl
 obtain ⟨j,e,⟨q1,q2⟩,hz,q⟩:=q1
 subst e
 cases r1 with
 | cons r rr =>
   cases rr
   obtain ⟨t,rfl⟩:=r
   refine call_range_1 ?_
   refine Calls.spliced_nil ?_
   have I2:Inv X pins σ H1 { s1 with heap:=s1.heap.push { cls:=.type "range",data:=.fields #[.int 0 s1.toks,.int j t,.int 1 (s1.toks + 1)] },toks:=s1.toks + 1 + 1 }:=I1.kept fun b o e=>Heap.get?_push_of_some _ e
   refine jr (n:=j.toNat) (I.ok.hd hc) (IsRange.new ..) (small_one (by decide) (by decide) q1 q2) (by rw [rangeSize_one]; split <;> omega) (Nat.le_trans hz (by decide)) fun h' tk acc hk hI=>?_
   have fr:h'.get? h'.objs.size=none:=by
    cases e:h'.get? h'.objs.size with
    | none=>rfl
    | some o=>exact absurd (Heap.lt_size e) (Nat.lt_irrefl _)
   have hv:aG ((dR 0 j.toNat).map V.int) acc.toList:=by
    have z:=pE acc.toList 0 fun k v hv=>by
     obtain ⟨t,e⟩:=hI.2 k v (by simpa using hv)
     exact ⟨t,by rw [e]; simp⟩
    rw [Array.length_toList,hI.1] at z
    exact z
   have I3:Inv X pins σ H1 { s1 with heap:=h',toks:=tk }:=I2.kept (t':=tk) hk
   exact ⟨.ref _,_,I3.newObj (t':=tk) (o:=.tup ((dR 0 j.toNat).map V.int)) (fun b o e=>Heap.get?_push_of_some _ e) fr ⟨by rw [List.length_map,jo]; exact Nat.le_trans hz (by decide),acc.toList,hv,⟨_,Heap.get?_push_size _ rfl,rfl,0,by simp⟩⟩,rfl,q _ (I3.hnone fr)⟩
end
end L2
namespace K04
open PySem L2 PySem.W Nm Srt
abbrev wa:Stmt:=(bt 50)
abbrev NW:List Str:=["_law_script","_law_k","_law_room_here","_law_prime_here","_law_own","_law_some","_law_good","_law_turn","_law_at","_law_wrong","_law_kept","_law_thing","_law_one","_law_great"]
theorem dM:FnScope NW ["_law_script"] (ar wa):=eO (by decide +kernel)
def p7:List Stmt:=match (cm wa).getD 0 (.Pass ⟨0,0,0,0⟩) with
 | .For _ _ b _ _=>b
 | _=>[]
abbrev XL (P:Program)(w:World)(K:Frag)(mg:Str->Option Value)(base:Heap)(fl:Addr)(cdv:Value)(A:Around)(outer:List Env)(s:Shared)(H0:Hp)(E:XK):Cx:=(dE (bz P w) P w K mg base NW "law" (ar wa) fl cdv A outer s H0 E).nox
theorem gB.imp' {X:Cx}{st:List Stmt}{t u:TS}(h:gB X st t)(i:∀ D σ H,u D σ H->t D σ H):gB X st u:=fun pins s σ H D I q=>h pins s σ H D I (i D σ H q)
theorem qI {K:PySem.W.Frag}{a:Addr}{xs:List V}{tt:TT}{te:TE}{rest:St}{H:Hp}{F:List V->Hp->Prop}(Pv:Nat->List V->Hp->Prop)(h0:Pv 0 [] H)
 (hz:∀ i ys H',i≤xs.length->Pv i ys H'->ys.length < sizeLine∧br K H' a xs)
 (hs:∀ i x ys H' T (N:List V->Hp->Prop),i < xs.length->xs[i]?=some x->Pv i ys H'->H' T=none->(∀ zs H5,Pv (i + 1) zs H5->N zs H5) →
  tt (some (.int i):: some x :: rest) (upd H' T (.tup [.int i,x])) fun b H4=>if b=true then te (some (.int i):: some x :: rest) H4 fun y H5=>N (ys++[y]) H5 else N ys H4)
 (hd:∀ ys H',Pv xs.length ys H'->F ys H'):
 ∃ W:Nat->Nat->List V->St->Hp->Prop,(∃ m,W 0 m [] (none :: none :: rest) H)∧iR (DL K a) (nv K 2 (cS (bZ 0) (cS (bZ 1) gNil))) tt te W F:=by
 refine ⟨fun i m ys σ H'=>m=xs.length - i∧i≤xs.length∧Pv i ys H'∧∃ o o2,σ=o :: o2 :: rest,⟨xs.length,by simp,Nat.zero_le _,h0,none,none,rfl⟩,?_⟩
 rintro i m ys σ H' ⟨rfl,hi,p,o,o2,rfl⟩
 obtain ⟨z1,z2⟩:=hz i ys H' hi p
 refine ⟨z1,?_⟩
 by_cases hlt:i < xs.length
 ·refine .inr ⟨⟨xs,xs[i],z2,by simp [hlt]⟩,fun v H2 hy=>?_⟩
  obtain ⟨T,x,hx,hT,rfl,rfl⟩:=hy
  exact ⟨T,[.int i,x],rfl,bf.of ag,rfl,_,_,rfl,_,_,rfl,rfl,hs i x ys H' T (fun zs H5=>∃ m',m' < xs.length - i∧m'=xs.length - (i + 1)∧i + 1≤xs.length∧Pv (i + 1) zs H5∧∃ o o2,(some (.int i):: some x :: rest:St)=o :: o2 :: rest) hlt (hx xs z2) p hT
   fun zs H5 h=>⟨xs.length - (i + 1),by omega,rfl,hlt,h,_,_,rfl⟩⟩
 ·have:i=xs.length:=by omega
  subst this
  exact .inl ⟨⟨xs,z2,Nat.le_refl _⟩,hd ys H' p⟩
def CZ:List Value->List Value->List Value
 | [a],[b,c]=>[a,b,c]
 | _,_=>[]
def g12V:List V->List V->List V
 | [a],[b,c]=>[a,b,c]
 | _,_=>[]
theorem zp:∀ {vs:List V}{us:List Value}{zs:List V}{ws:List Value},aG vs us->aG zs ws->aG (g12V vs zs) (CZ us ws)
 | _,_,_,_,.nil,_=>.nil
 | _,_,_,_,.cons r (.cons _ _),_=>.nil
 | _,_,_,_,.cons r .nil,.nil=>.nil
 | _,_,_,_,.cons r .nil,.cons z .nil=>.nil
 | _,_,_,_,.cons r .nil,.cons z (.cons y .nil)=>.cons r (.cons z (.cons y .nil))
 | _,_,_,_,.cons r .nil,.cons z (.cons _ (.cons _ _))=>.nil
theorem Av {us ws:List Value}(h:(CZ us ws).length=3):∃ a b c,us=[a]∧ws=[b,c]:=by
 unfold CZ at h
 split at h
 ·exact ⟨_,_,_,rfl,rfl⟩
 ·cases h
structure AllW (P:Program)(w:World)(K:Frag)(mg:Str->Option Value)(base:Heap)(C CF CN NFd fI fFI:Addr)(fdI fdFI:FuncData):Prop where
 R:AllR P w K mg base C CF CN fI fdI
 bI:L2.aH K fdI ["self","field","terms"] []
 bI1:L2.aH K fdI ["self","field","terms"] [Value.none]
 bIKK:KBinds K fdI ["self","field","terms"] ["field","terms"] CZ g12V
 MF:Mk K CF fFI
 FFI:FnOk P w K mg base (bz P w) 2 fFI fdFI ["self","prime"] (wu CF NFd)
 bFFI:L2.aH K fdFI ["self","prime"] []
 room:∃ f fd,FnOk P w K mg base (bz P w) 1 f fd ["_law_script","_law_k"] (xr K)∧L2.aH K fd ["_law_script","_law_k"] []∧mg "_law_room"=some (.ref f)∧keepIn K (.ref f)=true
 prime:∃ f fd,FnOk P w K mg base (bz P w) 2 f fd ["_law_room_here"] spPrimeL∧L2.aH K fd ["_law_room_here"] []∧mg "_law_prime"=some (.ref f)∧keepIn K (.ref f)=true
 terms:∃ f fd,FnOk P w K mg base (bz P w) 3 f fd ["_law_room_here","_law_prime_here"] spLTerms∧L2.aH K fd ["_law_room_here","_law_prime_here"] []∧mg "_law_terms"=some (.ref f)∧keepIn K (.ref f)=true
 take:∃ f fd,FnOk P w K mg base (bz P w) 1 f fd ["_law_room_here","_law_many"] spTake∧L2.aH K fd ["_law_room_here","_law_many"] []∧mg "_law_take"=some (.ref f)∧keepIn K (.ref f)=true
 right:∃ f fd,FnOk P w K mg base (bz P w) 8 f fd ["_law_own","_law_prime_here","_law_some"] (sJ CF)∧L2.aH K fd ["_law_own","_law_prime_here","_law_some"] []∧mg "_law_right"=some (.ref f)∧keepIn K (.ref f)=true
 odd:∃ f fd,FnOk P w K mg base (bz P w) 2 f fd ["_law_room_here","_law_term"] spOdd∧L2.aH K fd ["_law_room_here","_law_term"] []∧mg "_law_odd"=some (.ref f)∧keepIn K (.ref f)=true
 isT:∃ f fd,FnOk P w K mg base (bz P w) 3 f fd ["_law_prime_here","_law_term"] spLIsT∧L2.aH K fd ["_law_prime_here","_law_term"] []∧mg "_law_is_term"=some (.ref f)∧keepIn K (.ref f)=true
 numOf:∃ f fd,FnOk P w K mg base (bz P w) 8 f fd ["_law_own","_law_some"] (sC CF)∧L2.aH K fd ["_law_own","_law_some"] []∧mg "_law_number_of"=some (.ref f)∧keepIn K (.ref f)=true
 sys:rh K
 m_min:mg "min"=none
 m_range:mg "range"=none
 m_tuple:mg "tuple"=none
 m_repr:mg "repr"=none
 m_enum:mg "enumerate"=none
theorem e7 {C CF CN fl dxf s dx:Addr}{p:Int}{H:Hp}{x:V}{ts:List Tm}{m:Nat}{Q:Hp->Prop}{E:XK}(hs:H s=none)(hdx:H dx=none)(ne:dx≠s)(hf:H fl=some (.ins CF dxf (dD p)))(hp:FP p)(g:Good p H x ts m)
 (q:∀ D zs H',aA H H'->H' s=some (.ins C dx (qk fl D))->H' D=some (.lst zs)->bh H' zs (fh (aX p ts))->Q H'):
 eV C CF CN [.ref s,.ref fl,x] (upd (upd H dx (.own s)) s (.ins C dx [])) (fun v H2=>v = .non∧Q H2) E:=by
 have hS:aA H (upd (upd H dx (.own s)) s (.ins C dx [])):=(ak hdx).trans (ak (by rw [aq (Ne.symm ne)]; exact hs))
 refine .inl ⟨s,dx,fl,dxf,p,x,ts,m,rfl,ag,hS _ _ hf,hp,?_,g.few,g.gn,g.b1,g.b2,fun H' D zs k _ h1 h2 h3=>⟨rfl,q D zs H' (fP hs hdx ne k) h1 h2 h3⟩⟩
 rcases g.x with g | ⟨l,ys,e,hl,ht⟩
 ·exact .inl g
 ·exact .inr ⟨l,ys,e,hS _ _ hl,bh.keep ht (aF.of hS)⟩
theorem fA {F:Addr->Prop}{H:Hp}:∀ {ks:List Int}{xs:List V},ba F H (ks.map PyData.int) xs->xs=ks.map V.int
 | [],xs,h=>by unfold ba at h; exact h
 | k :: ks,xs,h=>by
   rw [List.map_cons] at h
   unfold ba at h
   obtain ⟨y,ys,rfl,h1,h2⟩:=h
   unfold Dt at h1
   rw [h1,fA h2]; rfl
theorem CQ {F:Addr->Prop}{H:Hp}{v:V}{t:Tm}(h:Dt F H (uP t) v):xP H v t:=by
 unfold uP Dt at h
 obtain ⟨a,xs,rfl,ha,hd⟩:=h
 unfold ba at hd
 obtain ⟨y,ys,rfl,h1,h2⟩:=hd
 unfold ba at h2
 obtain ⟨z,zs,rfl,h2,h3⟩:=h2
 unfold ba at h3
 subst h3
 unfold Dt at h1 h2
 obtain ⟨pr,xs,rfl,hpr,hx⟩:=h1
 obtain ⟨nu,ws,rfl,hnu,hw⟩:=h2
 have e1:=fA hx
 have e2:=fA (ks:=[t.2.1,t.2.2]) hw
 subst e1 e2
 exact ⟨a,pr,nu,rfl,ha,hpr,hnu⟩
theorem n6 {F:Addr->Prop}{H:Hp}:∀ {ts:List Tm}{vs:List V},ba F H (ts.map uP) vs->bh H vs ts
 | [],vs,h=>by
   have h:vs=[]:=by unfold ba at h; exact h
   subst h
   exact .nil
 | t :: ts,vs,h=>by
   rw [List.map_cons] at h
   unfold ba at h
   obtain ⟨y,ys,rfl,h1,h2⟩:=h
   exact .cons (CQ h1) (n6 h2)
theorem mD {F:Addr->Prop}{σ:St}{H0:Hp}:dq F σ H0 (sx (cT (tC (.int 60)) tNil)) (.tuple ((dR 0 60).map PyData.int)):=fun H Q s q =>
 ⟨60,rfl,by decide,by decide,fun D hD=>q _ _ (ak hD) (AI ag (eQ _))⟩
def Cz:List Tm:=[(dR 0 60,1,1),([59],1,1),([],1,1)]
def gtd:List Tm:=[([],1,1),([59],1,1),(dR 0 60,1,1)]
theorem FP.one {p:Int}(h:FP p):Gn p 45 (1,1):=by
 refine ⟨⟨by decide,by decide,fun z=>⟨rfl,by decide,?_⟩⟩,by unfold B; decide,by unfold B; decide⟩
 rcases h with h | h
 ·exact absurd h z
 ·have:∀ q∈primes,1 < q:=by decide
  exact this p h
theorem FP.nought {p:Int}(h:FP p):Gn p 45 (0,1):=by
 refine ⟨⟨by decide,by decide,fun z=>⟨rfl,by decide,?_⟩⟩,by unfold B; decide,by unfold B; decide⟩
 rcases h with h | h
 ·exact absurd h z
 ·have:∀ q∈primes,0 < q:=by decide
  exact this p h
theorem rn (p:Int):fh (aX p Cz)=gtd:=by rfl
theorem oy (p:Int):fh (aX p [([1],0,1)])=[]:=by rfl
theorem BG {p:Int}(hp:FP p):∀ t∈Cz,Gn p 45 t.2∧Ah t.1:=by
 intro t ht
 unfold Cz at ht
 simp only [List.mem_cons,List.mem_nil_iff,or_false] at ht
 rcases ht with rfl | rfl | rfl
 ·exact ⟨hp.one,kh (sy 60 0) (fun k hk=>by have:=kJ 60 0 k hk; omega) (by rw [jo]; decide)⟩
 ·exact ⟨hp.one,kh (by simp) (by simp) (by decide)⟩
 ·exact ⟨hp.one,kh (by simp) (by simp) (by decide)⟩
def tF (CF:Addr):TS:=fun D σ H=>∃ (fl dxf:Addr)(p:Int)(o0 o1 o2 o3 o5 o6 o7 o8 o9 o10 o11 o12 o13:Option V),σ=[o0,o1,o2,o3,some (.ref fl),o5,o6,o7,o8,o9,o10,o11,o12,o13]∧H fl=some (.ins CF dxf (dD p))∧FP p ∧
 ∀ x H',aA H H'->D.nx [o0,o1,o2,o3,some (.ref fl),o5,o6,o7,o8,o9,o10,o11,o12,x] H'
section
variable {P:Program}{w:World}{K:PySem.W.Frag}{mg:Str->Option Value}{base:Heap}
variable {fa:Addr}{cdv:Value}{A:Around}{outer:List Env}{s0:Shared}{H0:Hp}{E0:XK}{C CF CN NFd fI fFI:Addr}{fdI fdFI:FuncData}
set_option maxHeartbeats 1000000 in
theorem wy (hr8:Room 8 (XL P w K mg base fa cdv A outer s0 H0 E0).A)(W:AllW P w K mg base C CF CN NFd fI fFI fdI fdFI):gB (XL P w K mg base fa cdv A outer s0 H0 E0) (p7.drop 12) (tF CF):=by
 obtain ⟨fSt,fdSt,FSt,bSt,mSt⟩:=W.R.st
 obtain ⟨fSd,fdSd,FSd,bSd,mSd⟩:=W.R.sd
 obtain ⟨fL,fdL,FL,bL,nL,iL⟩:=W.R.ln
 have hr7:Room 7 (XL P w K mg base fa cdv A outer s0 H0 E0).A:=hr8.mono (by decide)
 have hr3:Room 3 (XL P w K mg base fa cdv A outer s0 H0 E0).A:=hr8.mono (by decide)
 have hr2:Room 2 (XL P w K mg base fa cdv A outer s0 H0 E0).A:=hr8.mono (by decide)
 have hr1:Room 1 (XL P w K mg base fa cdv A outer s0 H0 E0).A:=hr8.mono (by decide)
 refine gB.imp' (ao (@aS _ _ 13 _ _ _ _ dM.nd rfl (Or.inl rfl) (gL W.R.M W.R.FI hr7 (by rfl) W.R.c.mgC W.bI .nil ah (@aj _ _ _ _ _ (pv 4) (@aj _ _ _ _ _ (@bM _ _ _ _ (@aj _ _ _ _ _ (@aC _ _ _ _ _ (@aj _ _ _ _ _ (mr (@aj _ _ _ _ _ ai ae rfl) rfl (by rfl) W.m_tuple (by rfl) W.m_range) (@aj _ _ _ _ _ (@aC _ _ _ _ _ (@aj _ _ _ _ _ ai (@aj _ _ _ _ _ ai ae rfl) rfl)) ae rfl) rfl)) (@aj _ _ _ _ _ (@aC _ _ _ _ _ (@aj _ _ _ _ _ (@aC _ _ _ _ _ (@aj _ _ _ _ _ ai ae rfl)) (@aj _ _ _ _ _ (@aC _ _ _ _ _ (@aj _ _ _ _ _ ai (@aj _ _ _ _ _ ai ae rfl) rfl)) ae rfl) rfl)) (@aj _ _ _ _ _ (@aC _ _ _ _ _ (@aj _ _ _ _ _ (@aC _ _ _ _ _ ae) (@aj _ _ _ _ _ (@aC _ _ _ _ _ (@aj _ _ _ _ _ ai (@aj _ _ _ _ _ ai ae rfl) rfl)) ae rfl) rfl)) ae rfl) rfl) rfl)) ae rfl) rfl)) rfl (Or.inl rfl)) (av (bJ (PW.pt (cH (@aJ _ _ _ _ _ _ _ _ dI (cP (pv 13) W.R.c.cl mSd FSd hr1 bSd .nil ah) ai (aI _)) (cH (@aJ _ _ _ _ _ _ _ _ dI (az (ff nL iL FL hr2 bL ah) (by rfl) W.R.len (by rfl) (@aj _ _ _ _ _ (pv 13) ae rfl)) ai (aI _)) (de (@aJ _ _ _ _ _ _ _ _ (j7 hr8) (@aQ _ _ _ _ _ _ _ bA (cP (pv 13) W.R.c.cl mSt FSt hr1 bSt .nil ah) (tK nt ai) (fun _ _=>rfl)) (@aC _ _ _ _ _ (@aj _ _ _ _ _ (mr (@aj _ _ _ _ _ ai ae rfl) rfl (by rfl) W.m_tuple (by rfl) W.m_range) (@aj _ _ _ _ _ (@aC _ _ _ _ _ (@aj _ _ _ _ _ ai (@aj _ _ _ _ _ ai ae rfl) rfl)) ae rfl) rfl)) (aI _)))))) (av (aD c7)) aO))) fun D σ H h=>?_
 obtain ⟨fl,dxf,p,o0,o1,o2,o3,o5,o6,o7,o8,o9,o10,o11,o12,o13,rfl,hf,hp,q⟩:=h
 refine ⟨_,rfl,?_⟩
 refine nH (F:=fun _=>True) (ds:=Cz.map uP) (af (ay (af mD (af (ay (af (aZ (hX _)) (af (aZ (hX _)) ax))) ax))) (af (ay (af (ay (af (aZ (hX _)) ax)) (af (ay (af (aZ (hX _)) (af (aZ (hX _)) ax))) ax))) (af (ay (af (ay ax) (af (ay (af (aZ (hX _)) (af (aZ (hX _)) ax))) ax))) ax))) (by show 3≤100; decide) fun l vs H1 hl s1 el hd=>?_
 intro s dx hs hdx hne
 refine e7 (m:=45) (ts:=Cz) hs hdx hne (s1 _ _ hf) hp ⟨.inr ⟨l,vs,rfl,el,n6 hd⟩,by decide,BG hp,by decide,by decide⟩ fun D zs H2 s2 hs hD hz=>?_
 rw [rn] at hz
 have hlz:=hz.length
 have hlz:zs.length=3:=hlz
 refine ⟨_,rfl,s,dx,_,rfl,hs,rfl,s,dx,fl,D,zs,gtd,rfl,hs,hD,hz,rfl,_,rfl,?_⟩
 refine bQ (fun z=>absurd z (by decide)) fun _=>?_
 refine ⟨_,rfl,s,dx,_,rfl,hs,s,dx,fl,D,zs,rfl,hs,hD,zs.length,rfl,by rw [hlz]; decide,rfl,_,rfl,?_⟩
 rw [hlz]
 refine bQ (fun z=>absurd z (by decide)) fun _=>?_
 refine ⟨_,rfl,s,dx,_,rfl,hs,rfl,s,dx,fl,D,zs,rfl,hs,hD,fun g hg=>?_⟩
 have s3:=ak (o:=.lst zs) hg
 have eg:upd H2 g (.lst zs) g=some (.lst zs):=ag
 have hz3:=bh.keep hz (aF.of s3)
 have s13:=(s1.trans s2).trans s3
 generalize upd H2 g (.lst zs)=H3 at s3 eg hz3 s13 ⊢
 have h2:zs.length - 1 < zs.length:=by omega
 obtain ⟨t,et,tr⟩:=b9 hz3 (List.getElem?_eq_getElem h2)
 have ett:t=(dR 0 60,1,1):=by
  rw [show zs.length - 1=2 from by omega] at et
  exact (Option.some.inj et).symm
 subst ett
 refine ⟨_,rfl,g,zs,-1,_,rfl,rfl,br.of eg,xa h2,?_⟩
 refine ⟨60,rfl,by decide,by decide,fun a1 h1=>?_⟩
 have q1:=ak (o:=.tup ((dR 0 (Int.toNat 60)).map V.int)) h1
 have e1:upd H3 a1 (.tup ((dR 0 (Int.toNat 60)).map V.int)) a1=some (.tup ((dR 0 60).map V.int)):=ag
 generalize upd H3 a1 (.tup ((dR 0 (Int.toNat 60)).map V.int))=J1 at q1 e1 ⊢
 refine ⟨kQ,fun a2 h2=>?_⟩
 have q2:=ak (o:=.tup [.int 1,.int 1]) h2
 have e2:upd J1 a2 (.tup [.int 1,.int 1]) a2=some (cj 1 1):=ag
 have e1':=q2 _ _ e1
 generalize upd J1 a2 (.tup [.int 1,.int 1])=J2 at q2 e2 e1' ⊢
 refine ⟨kQ,fun a3 h3=>?_⟩
 have q3:=ak (o:=.tup [.ref a1,.ref a2]) h3
 have e3:upd J2 a3 (.tup [.ref a1,.ref a2]) a3=some (.tup [.ref a1,.ref a2]):=ag
 have e13:=q3 _ _ e1'
 have e23:=q3 _ _ e2
 have q03:=(q1.trans q2).trans q3
 generalize upd J2 a3 (.tup [.ref a1,.ref a2])=J3 at q3 e3 e13 e23 q03 ⊢
 have tr2:xP J3 (.ref a3) (dR 0 60,1,1):=⟨a3,a1,a2,rfl,e3,e13,e23⟩
 refine ⟨uE (dR 0 60,1,1),uE (dR 0 60,1,1),mZ (tr.keep (aF.of q03)),mZ tr2,?_,_,rfl,?_⟩
 ·have:=m9 [(dR 0 60,1,1)]
  simp only [List.map_cons,List.map_nil,dC] at this
  omega
 rw [dz]
 exact cf (q _ _ (s13.trans q03))
end
def AE (C fl:Addr)(H:Hp)(x:V):Prop:=∃ s dx D,x = .ref s∧H s=some (.ins C dx (qk fl D))∧H D=some (.lst [])
theorem AE.same {C fl:Addr}{H H':Hp}{x:V}(h:AE C fl H x)(s:aA H H'):AE C fl H' x:=by
 obtain ⟨a,dx,D,e,h1,h2⟩:=h
 exact ⟨a,dx,D,e,s _ _ h1,s _ _ h2⟩
theorem jm {H:Hp}{zs:List V}(h:bh H zs []):zs=[]:=by cases h; rfl
theorem pO {p:Int}{H:Hp}:Good p H .non [] 45:=⟨.inl ⟨rfl,rfl⟩,by decide,fun t h=>(nomatch h),by decide,by decide⟩
def tE (CF:Addr):TS:=fun D σ H=>∃ (fl dxf:Addr)(p:Int)(o0 o1 o2 o3 o5 o6 o7 o8 o9 o10 o11 o12 o13:Option V),σ=[o0,o1,o2,o3,some (.ref fl),o5,o6,o7,o8,o9,o10,o11,o12,o13]∧H fl=some (.ins CF dxf (dD p))∧FP p ∧
 ∀ x y H',aA H H'->D.nx [o0,o1,o2,o3,some (.ref fl),o5,o6,o7,o8,o9,o10,o11,x,y] H'
def tD (CF:Addr):TS:=fun D σ H=>∃ (fl dxf r L:Addr)(p:Int)(ys:List V)(o0 o1 o3 o6 o7 o8 o9 o10 o11 o12 o13:Option V),σ=[o0,o1,some (.ref r),o3,some (.ref fl),some (.ref L),o6,o7,o8,o9,o10,o11,o12,o13]∧H fl=some (.ins CF dxf (dD p))∧FP p∧aU H r∧H L=some (.lst ys)∧ys.length≤8 ∧
 ∀ x y z H',SameBut r H H'->D.nx [o0,o1,some (.ref r),o3,some (.ref fl),some (.ref L),o6,o7,o8,o9,o10,x,y,z] H'
def jj:Int->List Bool->List Int
 | _,[]=>[]
 | i,b :: bs=>if b=true then jj (i + 1) bs else i :: jj (i + 1) bs
theorem jY:∀ (bs:List Bool)(i:Int)(b:Bool),jj i (bs++[b])=jj i bs++(if b=true then [] else [i + bs.length])
 | [],i,b=>by cases b <;> simp [jj]
 | c :: bs,i,b=>by
   have ih:=jY bs (i + 1) b
   have e:(i + 1 + (bs.length:Int))=i + ((c :: bs).length:Int):=by rw [List.length_cons]; omega
   rw [e] at ih
   show (if c=true then jj (i + 1) (bs++[b]) else i :: jj (i + 1) (bs++[b]))=(if c=true then jj (i + 1) bs else i :: jj (i + 1) bs)++_
   rw [ih]
   cases c <;> simp
theorem nX:∀ (bs:List Bool)(i:Int),(jj i bs).length≤bs.length
 | [],i=>Nat.le_refl _
 | b :: bs,i=>by
   have:=nX bs (i + 1)
   unfold jj
   cases b <;> simp <;> omega
theorem lN:∀ (bs:List Bool)(i:Int),((∀ b∈bs,b=true)∧jj i bs=[])∨∃ k rest,bs[k]?=some false∧(∀ j,j < k->bs[j]?=some true)∧jj i bs=(i + (k:Nat)):: rest
 | [],i=>.inl ⟨fun b h=>(nomatch h),rfl⟩
 | false :: bs,i=>.inr ⟨0,jj (i + 1) bs,rfl,fun j h=>absurd h (Nat.not_lt_zero _),(by show i :: jj (i + 1) bs=_; simp)⟩
 | true :: bs,i=>by
   rcases lN bs (i + 1) with ⟨h1,h2⟩ | ⟨k,rest,h1,h2,h3⟩
   ·refine .inl ⟨fun b hb=>?_,by unfold jj; simpa using h2⟩
    rcases List.mem_cons.mp hb with rfl | hb
    ·rfl
    ·exact h1 b hb
   ·refine .inr ⟨k + 1,rest,h1,fun j hj=>?_,?_⟩
    ·cases j with
     | zero=>rfl
     | succ j=>exact h2 j (by omega)
    ·unfold jj
     rw [if_pos rfl,h3]
     congr 1
     push_cast
     omega
theorem pb {p:Int}{F:Addr->Prop}{H:Hp}(hp:FP p):∀ {ds:List PyData}{ys:List V},ba F H ds ys->(∀ d∈ds,i5 d∧j8 p d=true)->∃ ts,bh H ys ts∧ts.length=ds.length∧∀ t∈ts,Gn p 60 t.2∧Ah t.1
 | [],ys,h,_=>by
   have h:ys=[]:=by unfold ba at h; exact h
   subst h
   exact ⟨[],.nil,rfl,fun t h=>(nomatch h)⟩
 | d :: ds,ys,h,g=>by
   unfold ba at h
   obtain ⟨y,zs,rfl,h1,h2⟩:=h
   obtain ⟨n1,g1⟩:=g d List.mem_cons_self
   obtain ⟨t,_,tr,gt,pt⟩:=h1.tmr hp n1 g1
   obtain ⟨ts,a,b,c⟩:=pb hp h2 fun e he=>g e (List.mem_cons_of_mem _ he)
   refine ⟨t :: ts,.cons tr a,by rw [List.length_cons,List.length_cons,b],fun u hu=>?_⟩
   rcases List.mem_cons.mp hu with rfl | hu
   ·exact ⟨gt,pt⟩
   ·exact c u hu
structure Ents (r L:Addr)(H:Hp)(ys:List V)(ds:List PyData):Prop where
 d:ba (fun a=>a≠r∧a≠L) H ds ys
 ok:∀ d∈ds,So 4 200000 d∧i5 d
 few:ds.length≤8
theorem Ents.keep {r L:Addr}{H H':Hp}{ys:List V}{ds:List PyData}(h:Ents r L H ys ds)(k:aM (fun a=>a≠r∧a≠L) H H'):Ents r L H' ys ds:=⟨ba.keep k _ _ h.d,h.ok,h.few⟩
theorem Ents.len {r L:Addr}{H:Hp}{ys:List V}{ds:List PyData}(h:Ents r L H ys ds):ys.length≤8:=by rw [h.d.len]; exact h.few
theorem Ents.rd {K:Frag}{r L:Addr}{H:Hp}{ys:List V}{ds:List PyData}(h:Ents r L H ys ds)(e:H L=some (.lst ys)):i7 K H (.list ds) (.ref L):=by
 unfold i7
 exact ⟨L,ys,rfl,br.of e,ba.rd _ _ h.d⟩
theorem Ents.so {r L:Addr}{H:Hp}{ys:List V}{ds:List PyData}(h:Ents r L H ys ds):So 5 2000000 (.list ds):=(aV.lst (sR fun d hd=>(h.ok d hd).1)).mono (by decide) (by have:=h.few; omega)
theorem Ents.first {p:Int}{r L:Addr}{H:Hp}{ys:List V}{ds:List PyData}(hp:FP p)(h:Ents r L H ys ds)(e:H L=some (.lst ys)):
 (∃ ts,Good p H (.ref L) ts 60∧jj 0 (ds.map (j8 p))=[])∨∃ (k:Nat)(rest:List Int),l7 p H (.ref L) (.int k)∧jj 0 (ds.map (j8 p))=(k:Int):: rest:=by
 rcases lN (ds.map (j8 p)) 0 with ⟨h1,h2⟩ | ⟨k,rest,h1,h2,h3⟩
 ·obtain ⟨ts,a,b,c⟩:=pb hp h.d fun d hd=>⟨(h.ok d hd).2,h1 _ (List.mem_map.mpr ⟨d,hd,rfl⟩)⟩
  have:=h.few
  exact .inl ⟨ts,⟨.inr ⟨L,ys,rfl,e,a⟩,by omega,c,by omega,by decide⟩,h2⟩
 ·refine .inr ⟨k,rest,.inr ?_,by rw [h3]; simp⟩
  rw [List.getElem?_map] at h1
  obtain ⟨d,hd,hb⟩:=Option.map_eq_some_iff.mp h1
  have hk:k < ys.length:=by rw [h.d.len]; exact (List.getElem?_eq_some_iff.mp hd).1
  have hy:ys[k]?=some ys[k]:=List.getElem?_eq_getElem hk
  obtain ⟨d',hd',hdt⟩:=h.d.at hy
  rw [hd] at hd'
  cases hd'
  refine ⟨L,ys,k,ys[k],rfl,rfl,e,by have:=h.len; omega,fun i y hi ey=>?_,hy,?_⟩
  ·obtain ⟨e',he',hdt'⟩:=h.d.at ey
   have z:=h2 i hi
   rw [List.getElem?_map,he'] at z
   have z:j8 p e'=true:=Option.some.inj z
   rw [← z]
   exact hdt'.tmx (h.ok e' (List.mem_of_getElem? he')).2
  ·rw [← hb]
   exact hdt.tmx (h.ok d (List.mem_of_getElem? hd)).2
def Fe (CF:Addr):TS:=fun D σ H=>∃ (fl dxf r L:Addr)(p:Int)(ys:List V)(ds:List PyData)(o0 o1 o6 o7 o8 o9 o10 o11 o12 o13:Option V),σ=[o0,o1,some (.ref r),some (.int p),some (.ref fl),some (.ref L),o6,o7,o8,o9,o10,o11,o12,o13]∧H fl=some (.ins CF dxf (dD p))∧FP p∧aU H r∧H L=some (.lst ys)∧Ents r L H ys ds ∧
 ∀ u v x y z H',SameBut r H H'->D.nx [o0,o1,some (.ref r),some (.int p),some (.ref fl),some (.ref L),o6,o7,o8,u,v,x,y,z] H'
section
variable {P:Program}{w:World}{K:PySem.W.Frag}{mg:Str->Option Value}{base:Heap}
variable {fa:Addr}{cdv:Value}{A:Around}{outer:List Env}{s0:Shared}{H0:Hp}{E0:XK}{C CF CN NFd fI fFI:Addr}{fdI fdFI:FuncData}
set_option maxHeartbeats 1000000 in
theorem xO (hr8:Room 8 (XL P w K mg base fa cdv A outer s0 H0 E0).A)(W:AllW P w K mg base C CF CN NFd fI fFI fdI fdFI):gB (XL P w K mg base fa cdv A outer s0 H0 E0) (p7.drop 11) (tE CF):=by
 obtain ⟨fSt,fdSt,FSt,bSt,mSt⟩:=W.R.st
 obtain ⟨fSd,fdSd,FSd,bSd,mSd⟩:=W.R.sd
 obtain ⟨fL,fdL,FL,bL,nL,iL⟩:=W.R.ln
 have hr7:Room 7 (XL P w K mg base fa cdv A outer s0 H0 E0).A:=hr8.mono (by decide)
 have hr3:Room 3 (XL P w K mg base fa cdv A outer s0 H0 E0).A:=hr8.mono (by decide)
 have hr2:Room 2 (XL P w K mg base fa cdv A outer s0 H0 E0).A:=hr8.mono (by decide)
 have hr1:Room 1 (XL P w K mg base fa cdv A outer s0 H0 E0).A:=hr8.mono (by decide)
 refine gB.imp' (ao (gD PassesOwn.never rfl (gF (@bM _ _ _ _ (@aj _ _ _ _ _ (gL (dvs:=[.non]) W.R.M W.R.FI hr7 (by rfl) W.R.c.mgC W.bI1 (.cons rfl .nil) ah (@aj _ _ _ _ _ (pv 4) ae rfl)) (@aj _ _ _ _ _ (gL W.R.M W.R.FI hr7 (by rfl) W.R.c.mgC W.bI .nil ah (@aj _ _ _ _ _ (pv 4) (@aj _ _ _ _ _ eW ae rfl) rfl)) (@aj _ _ _ _ _ (gL W.R.M W.R.FI hr7 (by rfl) W.R.c.mgC W.bI .nil ah (@aj _ _ _ _ _ (pv 4) (@aj _ _ _ _ _ (@bM _ _ _ _ ae) ae rfl) rfl)) (@aj _ _ _ _ _ (wc W.R.M W.R.FI hr7 (by rfl) W.R.c.mgC W.bIKK ah (nK (pv 4) (nK (@bM _ _ _ _ (@aj _ _ _ _ _ (@aC _ _ _ _ _ (@aj _ _ _ _ _ (@aC _ _ _ _ _ (@aj _ _ _ _ _ ai ae rfl)) (@aj _ _ _ _ _ (@aC _ _ _ _ _ (@aj _ _ _ _ _ ai (@aj _ _ _ _ _ ai ae rfl) rfl)) ae rfl) rfl)) ae rfl)) xV))) ae rfl) rfl) rfl) rfl))) (aR (i:=12) dM.nd rfl (Or.inl rfl))
  (av (bJ (PW.pt (cH (@aJ _ _ _ _ _ _ _ _ (jt hr8) (cP (pv 12) W.R.c.cl mSt FSt hr1 bSt .nil ah) (@bM _ _ _ _ ae) (aI _)) (cH (@aJ _ _ _ _ _ _ _ _ dI (az (ff nL iL FL hr2 bL ah) (by rfl) W.R.len (by rfl) (@aj _ _ _ _ _ (pv 12) ae rfl)) ai (aI _)) (de (@aJ _ _ _ _ _ _ _ _ dI (cP (pv 12) W.R.c.cl mSd FSd hr1 bSd .nil ah) ai (aI _)))))) (av (aD c7)) aO))) (wy hr8 W)) fun D σ H h=>?_
 obtain ⟨fl,dxf,p,o0,o1,o2,o3,o5,o6,o7,o8,o9,o10,o11,o12,o13,rfl,hf,hp,q⟩:=h
 refine ⟨_,rfl,?_⟩
 intro x1 d1 hx1 hd1 n1
 refine e7 hx1 hd1 n1 hf hp pO fun D1 z1 H1 s1 h1 k1 t1=>?_
 have e1:=jm t1
 subst e1
 have m1:AE C fl H1 (.ref x1):=⟨x1,d1,D1,rfl,h1,k1⟩
 clear t1 h1 k1 hx1 hd1 n1
 refine ⟨_,rfl,?_⟩
 intro x2 d2 hx2 hd2 n2
 refine e7 hx2 hd2 n2 (s1 _ _ hf) hp pO fun D2 z2 H2 s2 h2 k2 t2=>?_
 have e2:=jm t2
 subst e2
 have m2:AE C fl H2 (.ref x2):=⟨x2,d2,D2,rfl,h2,k2⟩
 have m1:=m1.same s2
 have s2:=s1.trans s2
 clear t2 h2 k2 hx2 hd2 n2 s1
 refine ⟨_,rfl,Nat.zero_le _,fun l3 hl3=>?_⟩
 have r3:=ak (o:=.lst []) hl3
 have el3:upd H2 l3 (.lst []) l3=some (.lst []):=ag
 have m1:=m1.same r3
 have m2:=m2.same r3
 have s2:=s2.trans r3
 generalize upd H2 l3 (.lst [])=J3 at r3 el3 m1 m2 s2 ⊢
 intro x3 d3 hx3 hd3 n3
 refine e7 (ts:=[]) (m:=45) hx3 hd3 n3 (s2 _ _ hf) hp ⟨.inr ⟨l3,[],rfl,el3,.nil⟩,by decide,fun t h=>(nomatch h),by decide,by decide⟩ fun D3 z3 H3 s3 h3 k3 t3=>?_
 have e3:=jm t3
 subst e3
 have m3:AE C fl H3 (.ref x3):=⟨x3,d3,D3,rfl,h3,k3⟩
 have m1:=m1.same s3
 have m2:=m2.same s3
 have s3:=s2.trans s3
 clear t3 h3 k3 hx3 hd3 n3 s2 r3 el3 hl3
 refine ⟨_,rfl,?_⟩
 refine nH (F:=fun _=>True) (ds:=[([1],0,1)].map uP) (af (ay (af (ay (af (aZ (hX _)) ax)) (af (ay (af (aZ (hX _)) (af (aZ (hX _)) ax))) ax))) ax) (by show 1≤100; decide) fun l4 v4 J4 hl4 r4 el4 hd4=>?_
 have m1:=m1.same r4
 have m2:=m2.same r4
 have m3:=m3.same r4
 have s3:=s3.trans r4
 intro x4 d4 hx4 hd4' n4
 refine e7 (ts:=[([1],0,1)]) (m:=45) hx4 hd4' n4 (s3 _ _ hf) hp ⟨.inr ⟨l4,v4,rfl,el4,n6 hd4⟩,by decide,(fun t h=>by
  have:t=([1],0,1):=by simpa using h
  subst this
  exact ⟨hp.nought,kh (by simp) (by simp) (by decide)⟩),by decide,by decide⟩ fun D4 z4 H4 s4 h4 k4 t4=>?_
 rw [oy] at t4
 have e4:=jm t4
 subst e4
 have m4:AE C fl H4 (.ref x4):=⟨x4,d4,D4,rfl,h4,k4⟩
 have m1:=m1.same s4
 have m2:=m2.same s4
 have m3:=m3.same s4
 have s4:=s3.trans s4
 clear t4 h4 k4 hx4 hd4' n4 s3 r4 el4 hl4 hd4
 refine ⟨ES,fun lp hlp=>?_⟩
 have r5:=ak (o:=.lst [.ref x1,.ref x2,.ref x3,.ref x4]) hlp
 have e5:upd H4 lp (.lst [.ref x1,.ref x2,.ref x3,.ref x4]) lp=some (.lst [.ref x1,.ref x2,.ref x3,.ref x4]):=ag
 generalize upd H4 lp (.lst [.ref x1,.ref x2,.ref x3,.ref x4])=H5 at r5 e5 ⊢
 have all:∀ x∈([.ref x1,.ref x2,.ref x3,.ref x4]:List V),AE C fl H5 x:=by
  intro x hx
  simp only [List.mem_cons,List.mem_nil_iff,or_false] at hx
  rcases hx with rfl | rfl | rfl | rfl
  ·exact m1.same r5
  ·exact m2.same r5
  ·exact m3.same r5
  ·exact m4.same r5
 have s5:=s4.trans r5
 clear m1 m2 m3 m4 r5 hlp s4
 refine ⟨lp,rfl,⟨_,br.of e5⟩,?_⟩
 refine wb (K:=K) (a:=lp) (xs:=[.ref x1,.ref x2,.ref x3,.ref x4]) (fun j σ H'=>aA H5 H'∧∃ o,σ=[o0,o1,o2,o3,some (.ref fl),o5,o6,o7,o8,o9,o10,o11,o,o13]) ⟨aA.refl _,_,rfl⟩ (fun j σ H' _ h=>br.of (h.1 _ _ e5)) ?_ ?_
 ·rintro j y σ H' hy ⟨sj,o,rfl⟩
  obtain ⟨s,dx,Dd,rfl,hs,hD⟩:=(all y (List.mem_of_getElem? hy)).same sj
  refine ⟨_,rfl,s,dx,_,rfl,hs,rfl,s,dx,fl,Dd,[],rfl,hs,hD,fun g hg=>⟨Nat.zero_le _,fun l2 hl2=>?_⟩⟩
  have q1:=ak (o:=.lst []) hg
  have q2:=ak (o:=.lst []) hl2
  have eg:upd (upd H' g (.lst [])) l2 (.lst []) g=some (.lst []):=q2 _ _ ag
  have el:upd (upd H' g (.lst [])) l2 (.lst []) l2=some (.lst []):=ag
  have q12:=q1.trans q2
  generalize upd (upd H' g (.lst [])) l2 (.lst [])=J at eg el q12 ⊢
  have hs2:=q12 _ _ hs
  have hD2:=q12 _ _ hD
  refine ⟨g,l2,[],rfl,rfl,br.of eg,br.of el,_,rfl,?_⟩
  refine bQ (fun z=>absurd z (by decide)) fun _=>?_
  refine ⟨_,rfl,s,dx,_,rfl,hs2,s,dx,fl,Dd,[],rfl,hs2,hD2,0,rfl,by decide,rfl,_,rfl,?_⟩
  refine bQ (fun z=>absurd z (by decide)) fun _=>?_
  refine ⟨_,rfl,s,dx,_,rfl,hs2,rfl,s,dx,fl,Dd,[],[],rfl,hs2,hD2,.nil,rfl,_,rfl,?_⟩
  refine bQ (fun z=>absurd z (by decide)) fun _=>?_
  exact ⟨sj.trans q12,_,rfl⟩
 ·rintro σ H' ⟨sj,o,rfl⟩
  exact ⟨fl,dxf,p,_,_,_,_,_,_,_,_,_,_,_,_,_,rfl,sj _ _ (s5 _ _ hf),hp,fun x H9 s9=>q _ _ _ ((s5.trans sj).trans s9)⟩
set_option maxHeartbeats 1000000 in
theorem yf (hr8:Room 8 (XL P w K mg base fa cdv A outer s0 H0 E0).A)(W:AllW P w K mg base C CF CN NFd fI fFI fdI fdFI):gB (XL P w K mg base fa cdv A outer s0 H0 E0) (p7.drop 9) (tD CF):=by
 obtain ⟨fSt,fdSt,FSt,bSt,mSt⟩:=W.R.st
 obtain ⟨fSd,fdSd,FSd,bSd,mSd⟩:=W.R.sd
 obtain ⟨fL,fdL,FL,bL,nL,iL⟩:=W.R.ln
 have hr7:Room 7 (XL P w K mg base fa cdv A outer s0 H0 E0).A:=hr8.mono (by decide)
 have hr3:Room 3 (XL P w K mg base fa cdv A outer s0 H0 E0).A:=hr8.mono (by decide)
 have hr2:Room 2 (XL P w K mg base fa cdv A outer s0 H0 E0).A:=hr8.mono (by decide)
 have hr1:Room 1 (XL P w K mg base fa cdv A outer s0 H0 E0).A:=hr8.mono (by decide)
 obtain ⟨fTk,fdTk,FTk,bTk,mTk,kTk⟩:=W.take
 obtain ⟨fNO,fdNO,FNO,bNO,mNO,kNO⟩:=W.numOf
 obtain ⟨fIT,fdIT,FIT,bIT,mIT,kIT⟩:=W.isT
 refine gB.imp' (ao (@aS _ _ 11 _ _ _ _ dM.nd rfl (Or.inl rfl) (@aQ _ _ _ _ _ _ _ bA (@bM _ _ _ _ (@aj _ _ _ _ _ (@aC _ _ _ _ _ ae) (@aj _ _ _ _ _ (cE gc (by rfl) W.m_tuple (by rfl) (@aj _ _ _ _ _ (pv 5) ae rfl)) (@aj _ _ _ _ _ oU (@aj _ _ _ _ _ gr (@aj _ _ _ _ _ ai (@aj _ _ _ _ _ c7 ae rfl) rfl) rfl) rfl) rfl) rfl)) (aB FTk hr1 (by rfl) mTk kTk bTk .nil ah (@aj _ _ _ _ _ (pv 2) (@aj _ _ _ _ _ ai ae rfl) rfl)) (fun _ _=>rfl)) rfl (Or.inl rfl)) (ao (bJ (@aJ _ _ _ _ _ _ _ _ zV (aB FNO hr8 (by rfl) mNO kNO bNO .nil ah (@aj _ _ _ _ _ (pv 4) (@aj _ _ _ _ _ (pv 11) ae rfl) rfl)) eW (aI _)) (av (aD c7)) aO) (xO hr8 W))) fun D σ H h=>?_
 obtain ⟨fl,dxf,r,L,p,ys,o0,o1,o3,o6,o7,o8,o9,o10,o11,o12,o13,rfl,hf,hp,hR,hL,hl,q⟩:=h
 refine ⟨Fg,fun t1 h1=>?_⟩
 have r1:=ak (o:=.tup []) h1
 have e1:upd H t1 (.tup []) t1=some (.tup []):=ag
 generalize upd H t1 (.tup [])=J1 at r1 e1 ⊢
 refine ⟨_,rfl,L,ys,rfl,.inl ⟨br.of (r1 _ _ hL),fun t2 h2=>?_⟩⟩
 have r2:=ak (o:=.tup ys) h2
 have e2:upd J1 t2 (.tup ys) t2=some (.tup ys):=ag
 generalize upd J1 t2 (.tup ys)=J2 at r2 e2 ⊢
 intro t3 h3
 have r3:=ak (o:=.dK []) h3
 have e3:upd J2 t3 (.dK []) t3=some (.dK []):=ag
 generalize upd J2 t3 (.dK [])=J3 at r3 e3 ⊢
 refine ⟨Fh,fun t4 h4=>?_⟩
 have r4:=ak (o:=.lst ([.ref t1,.ref t2,.ref t3,.str "",.int 0,.bl true]:List V)) h4
 have e4:upd J3 t4 (.lst ([.ref t1,.ref t2,.ref t3,.str "",.int 0,.bl true]:List V)) t4=some (.lst ([.ref t1,.ref t2,.ref t3,.str "",.int 0,.bl true]:List V)):=ag
 have all:∀ v∈([.ref t1,.ref t2,.ref t3,.str "",.int 0,.bl true]:List V),v ≠ .non∧∃ T,Th J3 v T∧T ≠ "list":=by
  intro v hv
  simp only [List.mem_cons,List.mem_nil_iff,or_false] at hv
  rcases hv with rfl | rfl | rfl | rfl | rfl | rfl
  ·exact ⟨(by intro z; cases z),_,.tup (r3 _ _ (r2 _ _ e1)),by decide⟩
  ·exact ⟨(by intro z; cases z),_,.tup (r3 _ _ e2),by decide⟩
  ·exact ⟨(by intro z; cases z),_,.dK e3,by decide⟩
  ·exact ⟨(by intro z; cases z),_,.str _,by decide⟩
  ·exact ⟨(by intro z; cases z),_,.int _,by decide⟩
  ·exact ⟨(by intro z; cases z),_,.bl _,by decide⟩
 dsimp only at r4 e4 ⊢
 generalize upd J3 t4 _=J4 at r4 e4 ⊢
 have r04:=((r1.trans r2).trans r3).trans r4
 have R4:=hR.same r04
 have n4:t4≠r:=(hR.same ((r1.trans r2).trans r3)).ne h4
 refine ⟨_,rfl,?_⟩
 obtain ⟨lq1,xq1,hq1,yq1,zq1⟩:=id R4
 refine ⟨_,lq1,xq1,6,rfl,hq1,yq1,zq1,by decide,by decide,fun z lp1 xp1 z0 z1 yp1 zp1=>?_⟩
 have R5:aU (upd J4 r (.lst [.int lp1,.int xp1])) r:=⟨lp1,xp1,ag,yp1,zp1⟩
 have sb5:SameBut r J4 (upd J4 r (.lst [.int lp1,.int xp1])):=SameBut.upd
 generalize upd J4 r (.lst [.int lp1,.int xp1])=J5 at R5 sb5 ⊢
 obtain ⟨v,ev,hv⟩:=mV (xs:=([.ref t1,.ref t2,.ref t3,.str "",.int 0,.bl true]:List V)) (z:=z) z0 (by show z < 6; exact z1)
 refine ⟨t4,_,z,v,rfl,rfl,br.of (sb5 _ _ e4 n4),ev,?_⟩
 obtain ⟨hv1,T,th,hT⟩:=all v (List.mem_of_getElem? hv)
 have sb05:SameBut r H J5:=(SameBut.of r04).trans sb5
 have th5:Th J5 v T:=by
  have th4:=th.same r4
  cases th4 with
  | non=>exact .non
  | bl b=>exact .bl b
  | int i=>exact .int i
  | str x=>exact .str x
  | lst e=>exact absurd rfl hT
  | tup e=>exact .tup (R4.keepT sb5 _ _ e)
  | dK e=>exact .dK (sb5 _ _ e fun z=>by
   obtain ⟨l,x,h,_⟩:=R4
   rw [z,h] at e
   cases e)
 have nf:fl≠r:=fun z=>by
  obtain ⟨l,x,h,_⟩:=hR
  rw [z,h] at hf
  cases hf
 have hf5:=sb05 _ _ hf nf
 refine ⟨_,rfl,_,rfl,fl,dxf,p,v,rfl,hf5,hp,.inr ⟨.non,.inl ⟨rfl,hv1,T,th5,hT⟩,fun H6 s6=>⟨rfl,_,rfl,?_⟩⟩⟩
 refine bQ (fun z=>absurd z (by decide)) fun _=>?_
 exact ⟨fl,dxf,p,_,_,_,_,_,_,_,_,_,_,_,_,_,rfl,s6 _ _ hf5,hp,fun x y H9 s9=>q _ _ _ _ ((sb05.trans (SameBut.of s6)).trans (SameBut.of s9))⟩
set_option maxHeartbeats 1000000 in
theorem xF (hr8:Room 8 (XL P w K mg base fa cdv A outer s0 H0 E0).A)(W:AllW P w K mg base C CF CN NFd fI fFI fdI fdFI):gB (XL P w K mg base fa cdv A outer s0 H0 E0) (p7.drop 6) (Fe CF):=by
 obtain ⟨fSt,fdSt,FSt,bSt,mSt⟩:=W.R.st
 obtain ⟨fSd,fdSd,FSd,bSd,mSd⟩:=W.R.sd
 obtain ⟨fL,fdL,FL,bL,nL,iL⟩:=W.R.ln
 have hr7:Room 7 (XL P w K mg base fa cdv A outer s0 H0 E0).A:=hr8.mono (by decide)
 have hr3:Room 3 (XL P w K mg base fa cdv A outer s0 H0 E0).A:=hr8.mono (by decide)
 have hr2:Room 2 (XL P w K mg base fa cdv A outer s0 H0 E0).A:=hr8.mono (by decide)
 have hr1:Room 1 (XL P w K mg base fa cdv A outer s0 H0 E0).A:=hr8.mono (by decide)
 obtain ⟨fTk,fdTk,FTk,bTk,mTk,kTk⟩:=W.take
 obtain ⟨fNO,fdNO,FNO,bNO,mNO,kNO⟩:=W.numOf
 obtain ⟨fIT,fdIT,FIT,bIT,mIT,kIT⟩:=W.isT
 refine gB.imp' (ao (mQ (i:=9) (g:=nv K 2 (cS (bZ 0) (cS (bZ 1) gNil))) (N:=["_law_number_here","_law_term","_law_prime_here"]) (nl:=2) (js:=[3]) (osc:=ar wa) ⟨rfl,rfl,by decide +kernel,by decide +kernel,by decide +kernel,rfl,(.cons ⟨rfl,by decide +kernel⟩ .nil),by decide +kernel⟩ rfl dM.nd rfl (Or.inl rfl)
  (sv (pv 5) (by rfl) W.m_enum)
  (fun C fp s H=>(dX (X:=eN _ ["_law_number_here","_law_term","_law_prime_here"] _ C fp s H) rfl (bo (aR (X:=eN _ ["_law_number_here","_law_term","_law_prime_here"] _ C fp s H) (i:=0) (by show (["_law_number_here","_law_term","_law_prime_here"]:List Str).Nodup; decide +kernel) rfl (Or.inl rfl) (Or.inr rfl)) (bo (aR (X:=eN _ ["_law_number_here","_law_term","_law_prime_here"] _ C fp s H) (i:=1) (by show (["_law_number_here","_law_term","_law_prime_here"]:List Str).Nodup; decide +kernel) rfl (Or.inl rfl) (Or.inr rfl)) c0))))
  (fun C fp s H=>(fH (cc (cb (aB FIT hr3 (by rfl) mIT kIT bIT .nil ah (@aj _ _ _ _ _ (pv 2) (@aj _ _ _ _ _ (pv 1) ae rfl) rfl))))))
  (fun C fp s H=>(pv 0)) (by rfl)) (ao (@aS _ _ 10 _ _ _ _ dM.nd rfl (Or.inl rfl) (az (jO hr8 W.sys) (by rfl) W.m_repr (by rfl) (@aj _ _ _ _ _ (pv 5) ae rfl)) rfl (Or.inl rfl)) (ao (bJ (PW.pt (cH (@aJ _ _ _ _ _ _ _ _ dI (aB FNO hr8 (by rfl) mNO kNO bNO .nil ah (@aj _ _ _ _ _ (pv 4) (@aj _ _ _ _ _ (pv 5) ae rfl) rfl)) (@aQ _ _ _ _ _ _ _ bA (@aL _ _ _ _ _ _ _ _ iD (pv 9) (@bM _ _ _ _ (@aj _ _ _ _ _ gr ae rfl))) ai (fun _ _=>rfl)) (aI _)) (de (@aJ _ _ _ _ _ _ _ _ dI (az (jO hr8 W.sys) (by rfl) W.m_repr (by rfl) (@aj _ _ _ _ _ (pv 5) ae rfl)) (pv 10) (aI _))))) (av (aD c7)) aO) (yf hr8 W)))) fun D σ H h=>?_
 obtain ⟨fl,dxf,r,L,p,ys,ds,o0,o1,o6,o7,o8,o9,o10,o11,o12,o13,rfl,hf,hp,hR,hL,en,q⟩:=h
 refine ⟨_,rfl,L,ys,rfl,br.of hL,?_⟩
 have ll:=en.d.len
 have l8:=en.len
 refine qI (xs:=ys) (fun i us H'=>aA H H'∧us=(jj 0 ((ds.map (j8 p)).take i)).map V.int) ⟨aA.refl _,rfl⟩ (fun i us H' hi h=>?_) (fun i x us H' T N hi hx h hT k=>?_) (fun us H1 h=>?_)
 ·obtain ⟨sH,rfl⟩:=h
  refine ⟨?_,br.of (sH _ _ hL)⟩
  rw [List.length_map]
  exact Nat.lt_of_le_of_lt (Nat.le_trans (nX _ _) (show _≤8 by simp; omega)) (by decide)
 ·obtain ⟨sH,rfl⟩:=h
  obtain ⟨d,hd,hdt⟩:=en.d.at hx
  have sT:=sH.trans (ak (o:=.tup [.int i,x]) hT)
  have hdt:=Dt.keep (aM.of sT) _ _ hdt
  have ni:=(en.ok d (List.mem_of_getElem? hd)).2
  have hb:(ds.map (j8 p))[i]?=some (j8 p d):=by rw [List.getElem?_map,hd]; rfl
  have e2:(ds.map (j8 p)).take (i + 1)=(ds.map (j8 p)).take i++[j8 p d]:=by rw [List.take_add_one,hb]; rfl
  have e3:((ds.map (j8 p)).take i).length=i:=by simp; omega
  refine ⟨_,rfl,_,rfl,p,x,j8 p d,rfl,hp,hdt.tmx ni,hdt.tame ni,fun H3 s3=>⟨_,rfl,?_⟩⟩
  cases eb:j8 p d with
  | true =>
    refine cf (k _ _ ⟨sT.trans s3,?_⟩)
    rw [e2,jY,eb]
    simp
  | false =>
    refine bV ⟨_,rfl,k _ _ ⟨sT.trans s3,?_⟩⟩
    rw [e2,jY,eb,e3]
    simp
 obtain ⟨s1,rfl⟩:=h
 rw [show (ds.map (j8 p)).take ys.length=ds.map (j8 p) from by rw [ll]; exact List.take_of_length_le (by simp)]
 intro Lw hLw
 have r2:=ak (o:=.lst ((jj 0 (ds.map (j8 p))).map V.int)) hLw
 have ew:upd H1 Lw (.lst ((jj 0 (ds.map (j8 p))).map V.int)) Lw=some (.lst ((jj 0 (ds.map (j8 p))).map V.int)):=ag
 generalize upd H1 Lw _=H2 at r2 ew ⊢
 have s2:=s1.trans r2
 have en2:=en.keep (aM.of s2)
 have hL2:=s2 _ _ hL
 obtain ⟨so1,so2,so3⟩:=en.so
 refine ⟨_,rfl,L,.list ds,rfl,en2.rd hL2,so1,by omega,by omega,?_⟩
 have lw:((jj 0 (ds.map (j8 p))).map V.int).length≤8:=by
  rw [List.length_map]
  exact Nat.le_trans (nX _ _) (by rw [List.length_map]; exact en.few)
 rcases en2.first hp hL2 with ⟨ts,g,ewr⟩ | ⟨k,rest,wr,ewr⟩
 ·rw [ewr] at ew lw
  have ew:H2 Lw=some (.lst []):=ew
  have lw:([]:List V).length≤8:=by decide
  refine ⟨_,rfl,_,rfl,fl,dxf,p,.ref L,rfl,s2 _ _ hf,hp,.inl ⟨ts,60,g,fun H3 s3=>?_⟩⟩
  refine ⟨_,rfl,AA,fun t4 h4=>?_⟩
  have r4:=ak (o:=.lst [.str "told"]) h4
  have e4:upd H3 t4 (.lst [.str "told"]) t4=some (.lst [.str "told"]):=ag
  generalize upd H3 t4 (.lst [.str "told"])=H4 at r4 e4 ⊢
  have ew4:=r4 _ _ (s3 _ _ ew)
  refine ⟨Lw,t4,_,_,rfl,rfl,ew4,e4,Nat.le_trans (show _≤9 by rw [List.length_singleton]; omega) (by decide),fun L5 h5=>?_⟩
  have r5:=ak (o:=.lst (([]:List V)++[.str "told"])) h5
  have e5:upd H4 L5 (.lst (([]:List V)++[.str "told"])) L5=some (.lst (([]:List V)++[.str "told"])):=ag
  generalize upd H4 L5 _=H5 at r5 e5 ⊢
  refine ⟨L5,_,0,.str "told",rfl,rfl,br.of e5,rfl,rfl,_,rfl,?_⟩
  refine bQ (fun z=>absurd z (by simp)) fun _=>?_
  have s5:=(s3.trans r4).trans r5
  have en5:=en2.keep (aM.of s5)
  have hL5:=s5 _ _ hL2
  refine ⟨_,rfl,L,.list ds,rfl,en5.rd hL5,so1,by omega,by omega,_,rfl,rfl,_,rfl,?_⟩
  refine bQ (fun z=>absurd z (by simp)) fun _=>?_
  have s05:=s2.trans s5
  exact ⟨fl,dxf,r,L,p,ys,_,_,_,_,_,_,_,_,_,_,_,rfl,s05 _ _ hf,hp,hR.same s05,hL5,l8,fun x y z H9 s9=>q _ _ _ _ _ _ ((SameBut.of s05).trans s9)⟩
 ·rw [ewr] at ew lw
  have ew:H2 Lw=some (.lst (V.int k :: rest.map V.int)):=ew
  have lw:(V.int k :: rest.map V.int).length≤8:=lw
  refine ⟨_,rfl,_,rfl,fl,dxf,p,.ref L,rfl,s2 _ _ hf,hp,.inr ⟨.int k,wr,fun H3 s3=>?_⟩⟩
  refine ⟨_,rfl,AA,fun t4 h4=>?_⟩
  have r4:=ak (o:=.lst [.str "told"]) h4
  have e4:upd H3 t4 (.lst [.str "told"]) t4=some (.lst [.str "told"]):=ag
  generalize upd H3 t4 (.lst [.str "told"])=H4 at r4 e4 ⊢
  have ew4:=r4 _ _ (s3 _ _ ew)
  refine ⟨Lw,t4,_,_,rfl,rfl,ew4,e4,Nat.le_trans (show _≤9 by rw [List.length_singleton]; omega) (by decide),fun L5 h5=>?_⟩
  have r5:=ak (o:=.lst ((V.int k :: rest.map V.int)++[.str "told"])) h5
  have e5:upd H4 L5 (.lst ((V.int k :: rest.map V.int)++[.str "told"])) L5=some (.lst ((V.int k :: rest.map V.int)++[.str "told"])):=ag
  generalize upd H4 L5 _=H5 at r5 e5 ⊢
  refine ⟨L5,_,0,.int k,rfl,rfl,br.of e5,(ji (xs:=(V.int k :: rest.map V.int)++[V.str (Str.ofString "told")]) (j:=0) rfl),rfl,_,rfl,?_⟩
  refine bQ (fun z=>absurd z (by simp)) fun _=>?_
  have s5:=(s3.trans r4).trans r5
  have en5:=en2.keep (aM.of s5)
  have hL5:=s5 _ _ hL2
  refine ⟨_,rfl,L,.list ds,rfl,en5.rd hL5,so1,by omega,by omega,_,rfl,rfl,_,rfl,?_⟩
  refine bQ (fun z=>absurd z (by simp)) fun _=>?_
  have s05:=s2.trans s5
  exact ⟨fl,dxf,r,L,p,ys,_,_,_,_,_,_,_,_,_,_,_,rfl,s05 _ _ hf,hp,hR.same s05,hL5,l8,fun x y z H9 s9=>q _ _ _ _ _ _ ((SameBut.of s05).trans s9)⟩
end
theorem xc.so {p:Int}{t:Tm}(h:xc p t):So 4 200000 (uP t)∧i5 (uP t):=by
 obtain ⟨⟨_,b1,b2⟩,_,hk,hl⟩:=h
 have n2:So 3 4000 (dN t.2.1 t.2.2):=fZ _ b1 b2
 have p2:So 3 120000 (dP t.1):=yG _ hl hk
 exact ⟨(aV.tup (aV.cons (l:=124004) p2 (aV.cons (l:=4002) n2 (aV.nil (m:=0)) (by decide)) (by decide))).mono (by decide) (by decide),Am (by omega) (b1.mono (by decide)) (b2.mono (by decide))⟩
theorem rX {F:Addr->Prop}{H:Hp}:∀ {ys:List V}{ts:List Tm},bh H ys ts->ba F H (ts.map uP) ys
 | _,_,.nil=>.nil
 | _,_,.cons h r=>.cons (Dj h) (rX r)
theorem kn {p:Int}{r L:Addr}{H:Hp}{ys:List V}{ts:List Tm}(h:bh H ys ts)(hl:ts.length≤8)(g:∀ t∈ts,xc p t):Ents r L H ys (ts.map uP):=⟨rX h,fun d hd=>by
 obtain ⟨t,ht,rfl⟩:=List.mem_map.mp hd
 exact (g t ht).so,by rw [List.length_map]; exact hl⟩
theorem zD {H:Hp}{a b:Addr}{o:HO}(h:H a=some o)(k:H b=none):b≠a:=fun z=>by rw [z,h] at k; cases k
theorem Cd {n:Nat}{z:Int}(h0:0≤z)(h1:z < (n:Int)):vL n z=some z.toNat:=by
 unfold vL
 rw [if_pos h0,if_pos h1]
def yH (K:Frag)(H:Hp)(a:Addr)(ns:List Int):Prop:=(∃ o,H a=some (.frz o (.lst (ns.map V.int))))∨∃ (o:Obj)(its:Array Value)(n:Nat),K.lookup a=some o∧o.cls = .type "list"∧o.dict=none∧o.data = .seq its n∧its.size≤sizeLine∧L2.aG (ns.map V.int) its.toList
theorem yH.sq {K:Frag}{H:Hp}{a:Addr}{ns:List Int}(h:yH K H a ns):br K H a (ns.map V.int):=by
 rcases h with ⟨o,h⟩ | h
 ·exact .inl (.inr ⟨o,h⟩)
 ·exact .inr h
theorem yH.keep {K:Frag}{F:Addr->Prop}{H H':Hp}{a:Addr}{ns:List Int}(h:yH K H a ns)(S:aM F H H'):yH K H' a ns:=by
 rcases h with ⟨o,h⟩ | h
 ·exact .inl ⟨o,S _ _ h fun l z=>by cases z⟩
 ·exact .inr h
theorem yH.same {K:Frag}{H H':Hp}{a:Addr}{ns:List Int}(h:yH K H a ns)(S:aA H H'):yH K H' a ns:=h.keep (F:=fun _=>True) (aM.of S)
def xi (K:Frag):Sp:=fun vs H Q _=>∃ (a:Addr)(ns:List Int),vs=[.ref a]∧yH K H a ns∧ns.length≤63∧∀ H',Q (.bl true) H'
theorem FP.good {p:Int}(h:FP p):good (.int p)=true:=by
 show iU p=true
 unfold iU
 rcases h with h | h
 ·rw [h]; rfl
 ·have:(primes.any fun q=>q == p)=true:=by
   rw [List.any_eq_true]
   exact ⟨p,h,by simp⟩
  rw [this]
  simp
def Ff (CF:Addr):TS:=fun D σ H=>∃ (fl dxf r L:Addr)(p:Int)(ys:List V)(ts:List Tm)(o0 o1 o6 o7 o8 o9 o10 o11 o12 o13:Option V),σ=[o0,o1,some (.ref r),some (.int p),some (.ref fl),some (.ref L),o6,o7,o8,o9,o10,o11,o12,o13]∧H fl=some (.ins CF dxf (dD p))∧FP p∧aU H r∧L≠r∧H L=some (.lst ys)∧bh H ys ts∧ts.length≤8∧(∀ t∈ts,xc p t) ∧
 ∀ a b c u v x y z H',aM (fun b=>b≠r∧b≠L) H H'->D.nx [o0,o1,some (.ref r),some (.int p),some (.ref fl),some (.ref L),a,b,c,u,v,x,y,z] H'
section
variable {P:Program}{w:World}{K:PySem.W.Frag}{mg:Str->Option Value}{base:Heap}
variable {fa:Addr}{cdv:Value}{A:Around}{outer:List Env}{s0:Shared}{H0:Hp}{E0:XK}{C CF CN NFd fI fFI:Addr}{fdI fdFI:FuncData}
set_option maxHeartbeats 1000000 in
theorem xR (hr8:Room 8 (XL P w K mg base fa cdv A outer s0 H0 E0).A)(W:AllW P w K mg base C CF CN NFd fI fFI fdI fdFI):gB (XL P w K mg base fa cdv A outer s0 H0 E0) (p7.drop 5) (Ff CF):=by
 obtain ⟨fSt,fdSt,FSt,bSt,mSt⟩:=W.R.st
 obtain ⟨fSd,fdSd,FSd,bSd,mSd⟩:=W.R.sd
 obtain ⟨fL,fdL,FL,bL,nL,iL⟩:=W.R.ln
 have hr7:Room 7 (XL P w K mg base fa cdv A outer s0 H0 E0).A:=hr8.mono (by decide)
 have hr3:Room 3 (XL P w K mg base fa cdv A outer s0 H0 E0).A:=hr8.mono (by decide)
 have hr2:Room 2 (XL P w K mg base fa cdv A outer s0 H0 E0).A:=hr8.mono (by decide)
 have hr1:Room 1 (XL P w K mg base fa cdv A outer s0 H0 E0).A:=hr8.mono (by decide)
 obtain ⟨fTk,fdTk,FTk,bTk,mTk,kTk⟩:=W.take
 obtain ⟨fO,fdO,FO,bO,mO,kO⟩:=W.odd
 refine gB.imp' (ao (bJ (PW.pt (xG (@aJ _ _ _ _ _ _ _ _ (jt hr8) (pv 5) (@bM _ _ _ _ ae) (aI _)) (sk (@aJ _ _ _ _ _ _ _ _ lX (aB FTk hr1 (by rfl) mTk kTk bTk .nil ah (@aj _ _ _ _ _ (pv 2) (@aj _ _ _ _ _ ai ae rfl) rfl)) ai (aI _))))) (ao (@aS _ _ 6 _ _ _ _ dM.nd rfl (Or.inl rfl) (cE cL (by rfl) W.R.list (by rfl) (@aj _ _ _ _ _ (pv 5) ae rfl)) rfl (Or.inl rfl))
  (av (gD PassesOwn.never rfl (d9 (by rfl) W.m_range (@aj _ _ _ _ _ (@aL _ _ _ _ _ _ _ _ eJ ai (aB FTk hr1 (by rfl) mTk kTk bTk .nil ah (@aj _ _ _ _ _ (pv 2) (@aj _ _ _ _ _ ai ae rfl) rfl))) ae rfl)) (aR (i:=7) dM.nd rfl (Or.inl rfl))
  (ao (@aS _ _ 8 _ _ _ _ dM.nd rfl (Or.inl rfl) (aB FTk hr1 (by rfl) mTk kTk bTk .nil ah (@aj _ _ _ _ _ (pv 2) (@aj _ _ _ _ _ (az a9 (by rfl) W.R.len PySem.boot_len (@aj _ _ _ _ _ (pv 5) ae rfl)) ae rfl) rfl)) rfl (Or.inl rfl))
  (av (ij (aB FO hr2 (by rfl) mO kO bO .nil ah (@aj _ _ _ _ _ (pv 2) (@aj _ _ _ _ _ (@aQ _ _ _ _ _ _ _ bA (pv 6) (pv 8) (fun _ _=>rfl)) ae rfl) rfl)) (m8 (pv 5) (pv 8) gU))))))) aO) (xF hr8 W)) fun D σ H h=>?_
 obtain ⟨fl,dxf,r,L,p,ys,ts,o0,o1,o6,o7,o8,o9,o10,o11,o12,o13,rfl,hf,hp,hR,nL,hL,ht,h8,tg,q⟩:=h
 have toF:∀ {J J':Hp},aU J r->SameBut r J J'->aM (fun b=>b≠r∧b≠L) J J':=fun R s=>(aM.but R s).mono fun a h=>h.1
 refine ⟨_,rfl,Nat.zero_le _,fun e he=>?_⟩
 have r1:=ak (o:=.lst []) he
 have ee:upd H e (.lst []) e=some (.lst []):=ag
 generalize upd H e (.lst [])=H1 at r1 ee ⊢
 have hL1:=r1 _ _ hL
 have hR1:=hR.same r1
 have ht1:=bh.keep ht (aF.of r1)
 refine ⟨L,e,ys,rfl,rfl,br.of hL1,br.of ee,_,rfl,?_⟩
 by_cases hn:ys=[]
 ·rw [decide_eq_true hn]
  refine cf (cf ?_)
  exact ⟨fl,dxf,r,L,p,ys,_,_,_,_,_,_,_,_,_,_,_,rfl,r1 _ _ hf,hp,hR1,hL1,kn ht1 h8 tg,fun u v x y z H9 s9=>q _ _ _ _ _ _ _ _ _ ((aM.of r1).trans (toF hR1 s9))⟩
 rw [decide_eq_false hn]
 refine bV ⟨_,rfl,?_⟩
 obtain ⟨lq1,xq1,hq1,yq1,zq1⟩:=id hR1
 refine ⟨_,lq1,xq1,4,rfl,hq1,yq1,zq1,by decide,by decide,fun z4 lp1 xp1 z40 z41 yp1 zp1=>?_⟩
 have R2:aU (upd H1 r (.lst [.int lp1,.int xp1])) r:=⟨lp1,xp1,ag,yp1,zp1⟩
 have sb2:SameBut r H1 (upd H1 r (.lst [.int lp1,.int xp1])):=SameBut.upd
 generalize upd H1 r (.lst [.int lp1,.int xp1])=H2 at R2 sb2 ⊢
 have k2:=toF hR1 sb2
 have hL2:=sb2 _ _ hL1 nL
 have ht2:=bh.keep ht1 k2.tup
 have hf2:=k2.ins (r1 _ _ hf)
 have k02:=(aM.of r1).trans k2
 refine ⟨_,_,rfl,rfl,_,rfl,?_⟩
 refine bQ (fun hz=>?_) (fun hz=>?_)
 case refine_2=>exact ⟨fl,dxf,r,L,p,ys,_,_,_,_,_,_,_,_,_,_,_,rfl,hf2,hp,R2,hL2,kn ht2 h8 tg,fun u v x y z H9 s9=>q _ _ _ _ _ _ _ _ _ (k02.trans (toF R2 s9))⟩
 refine ⟨_,rfl,L,ys,rfl,.inl (br.of hL2),fun G hG=>?_⟩
 have r3:=ak (o:=.lst ys) hG
 have eG:upd H2 G (.lst ys) G=some (.lst ys):=ag
 have nGr:=R2.ne hG
 have nGL:G≠L:=fun z=>by rw [z,hL2] at hG; cases hG
 have R3:=R2.same r3
 have hL3:=r3 _ _ hL2
 have ht3:=bh.keep ht2 (aF.of r3)
 have hf3:=r3 _ _ hf2
 have k03:=k02.trans (aM.of r3)
 generalize upd H2 G (.lst ys)=H3 at r3 eG R3 hL3 ht3 hf3 k03 ⊢
 clear k02 k2 hf2 ht2 hL2 R2 sb2 hG r3
 refine ⟨_,rfl,?_⟩
 obtain ⟨lq2,xq2,hq2,yq2,zq2⟩:=id R3
 refine ⟨_,lq2,xq2,2,rfl,hq2,yq2,zq2,by decide,by decide,fun u lp2 xp2 u0 u1 yp2 zp2=>?_⟩
 have R4:aU (upd H3 r (.lst [.int lp2,.int xp2])) r:=⟨lp2,xp2,ag,yp2,zp2⟩
 have sb4:SameBut r H3 (upd H3 r (.lst [.int lp2,.int xp2])):=SameBut.upd
 generalize upd H3 r (.lst [.int lp2,.int xp2])=H4 at R4 sb4 ⊢
 have k4:=toF R3 sb4
 have hL4:=sb4 _ _ hL3 nL
 have eG4:=sb4 _ _ eG nGr
 have ht4:=bh.keep ht3 k4.tup
 have hf4:=k4.ins hf3
 have k04:=k03.trans k4
 clear k4 sb4 R3 hL3 ht3 hf3 k03 eG
 have yl:ys.length=ts.length:=ht.length
 have y0:0 < ys.length:=List.length_pos_iff.mpr hn
 refine ⟨1,u,rfl,rfl,1 + u,rfl,by omega,by omega,?_⟩
 refine mw (lo:=0) (fun i σ H'=>aU H' r∧aM (fun b=>b≠r∧b≠L) H4 H'∧H' G=some (.lst ys)∧(∃ zs ds,H' L=some (.lst zs)∧Ents r L H' zs ds∧zs.length=ys.length)∧∃ a b,σ=[o0,o1,some (.ref r),some (.int p),some (.ref fl),some (.ref L),some (.ref G),a,b,o9,o10,o11,o12,o13])
  ⟨R4,aM.of (aA.refl _),eG4,⟨ys,_,hL4,kn ht4 h8 tg,rfl⟩,_,_,rfl⟩ ?_ ?_
 ·rintro i σ J0 hi ⟨R5,k5,eG5,⟨zs,ds,hL5,en5,zl⟩,a,b,rfl⟩
  obtain ⟨l5,x5,h5,y5,w5⟩:=id R5
  refine ⟨_,rfl,_,rfl,L,zs,rfl,.inl (br.of hL5),r,l5,x5,(zs.length:Int),rfl,h5,y5,w5,by omega,by omega,fun at_ l6 x6 a0 a1 y6 w6=>?_⟩
  have R6:aU (upd J0 r (.lst [.int l6,.int x6])) r:=⟨l6,x6,ag,y6,w6⟩
  have sb6:SameBut r J0 (upd J0 r (.lst [.int l6,.int x6])):=SameBut.upd
  generalize upd J0 r (.lst [.int l6,.int x6])=J1 at R6 sb6 ⊢
  have k6:=toF R5 sb6
  have eG6:=sb6 _ _ eG5 nGr
  have hL6:=sb6 _ _ hL5 nL
  have en6:=en5.keep k6
  have k06:=k5.trans k6
  have ht6:=bh.keep ht4 k06.tup
  obtain ⟨y,ey,hy⟩:=mV (xs:=ys) (z:=at_) a0 (by omega)
  obtain ⟨t,et,tr⟩:=b9 ht6 hy
  refine ⟨_,rfl,_,rfl,_,rfl,G,ys,at_,y,rfl,rfl,br.of eG6,ey,r,y,p,t,rfl,R6,tr,tg t (List.mem_of_getElem? et),fun y' J2 d R7 sb7 hd so ni=>?_⟩
  have k7:=toF R6 sb7
  have hL7:=sb7 _ _ hL6 nL
  have eG7:=sb7 _ _ eG6 nGr
  have en7:=en6.keep k7
  have hd7:Dt (fun b=>b≠r∧b≠L) J2 d y':=Dt.mono (fun b hb=>⟨R6.ne hb,zD hL6 hb⟩) _ _ hd
  refine ⟨_,rfl,_,rfl,L,zs,at_,at_.toNat,rfl,rfl,hL7,Cd a0 a1,?_⟩
  have k8:aM (fun b=>b≠r∧b≠L) J2 (upd J2 L (.lst (zs.set at_.toNat y'))):=aM.put hL7 fun z=>z.2 rfl
  obtain ⟨l8,x8,h8',y8,w8⟩:=R7
  refine ⟨⟨l8,x8,by rw [aq (Ne.symm nL)]; exact h8',y8,w8⟩,(k06.trans k7).trans k8,by rw [aq nGL]; exact eG7,⟨_,ds.set at_.toNat d,ag,⟨ba.keep k8 _ _ (ba.set hd7 en7.d _),fun e he=>?_,by rw [List.length_set]; exact en7.few⟩,by rw [List.length_set]; exact zl⟩,_,_,rfl⟩
  rcases List.mem_or_eq_of_mem_set he with he | he
  ·exact en7.ok e he
  ·rw [he]; exact ⟨so,ni⟩
 ·rintro σ J ⟨R5,k5,eG5,⟨zs,ds,hL5,en5,zl⟩,a,b,rfl⟩
  exact ⟨fl,dxf,r,L,p,zs,ds,_,_,_,_,_,_,_,_,_,_,rfl,k5.ins hf4,hp,R5,hL5,en5,fun u v x y z H9 s9=>q _ _ _ _ _ _ _ _ _ ((k04.trans k5).trans (toF R5 s9))⟩
set_option maxHeartbeats 1000000 in
theorem Bo {f:Addr}{fd:FuncData}(F:Fun K "law" "law" wa f fd)(W:AllW P w K mg base C CF CN NFd fI fFI fdI fdFI):FnOk P w K mg base (bz P w) 9 f fd ["_law_script"] (xi K):=by
 refine F.okN dM (fun vs H Q E h=>?_) (fun cdv A outer s H vs Q E hr h=>?_)
 ·obtain ⟨a,ns,rfl,_⟩:=h
  rfl
 ·obtain ⟨a,ns,rfl,scr,hlen,fin⟩:=h
  have hr8:Room 8 (XL P w K mg base f cdv A outer s H E).A:=hr
  have hr3:Room 3 (XL P w K mg base f cdv A outer s H E).A:=hr8.mono (by decide)
  have hr2:Room 2 (XL P w K mg base f cdv A outer s H E).A:=hr8.mono (by decide)
  have hr1:Room 1 (XL P w K mg base f cdv A outer s H E).A:=hr8.mono (by decide)
  obtain ⟨fRm,fdRm,FRm,bRm,mRm,kRm⟩:=W.room
  obtain ⟨fPr,fdPr,FPr,bPr,mPr,kPr⟩:=W.prime
  obtain ⟨fLt,fdLt,FLt,bLt,mLt,kLt⟩:=W.terms
  obtain ⟨fR,fdR,FR,bR,mR,kR⟩:=W.right
  refine ⟨_,ao (gD PassesOwn.never rfl (d9 (by rfl) W.m_range (@aj _ _ _ _ _ (az (vH rfl) (by rfl) W.R.max (by rfl) (@aj _ _ _ _ _ ai (@aj _ _ _ _ _ (az (uo rfl) (by rfl) W.m_min (by rfl) (@aj _ _ _ _ _ (az a9 (by rfl) W.R.len PySem.boot_len (@aj _ _ _ _ _ (pv 0) ae rfl)) (@aj _ _ _ _ _ ai ae rfl) rfl)) ae rfl) rfl)) ae rfl)) (aR (i:=1) dM.nd rfl (Or.inl rfl)) (ao (@aS _ _ 2 _ _ _ _ dM.nd rfl (Or.inl rfl) (aB FRm hr1 (by rfl) mRm kRm bRm .nil ah (@aj _ _ _ _ _ (pv 0) (@aj _ _ _ _ _ (pv 1) ae rfl) rfl)) rfl (Or.inl rfl)) (ao (@aS _ _ 3 _ _ _ _ dM.nd rfl (Or.inr rfl) (aB FPr hr2 (by rfl) mPr kPr bPr .nil ah (@aj _ _ _ _ _ (pv 2) ae rfl)) rfl (Or.inl rfl)) (ao (@aS _ _ 4 _ _ _ _ dM.nd rfl (Or.inl rfl) (gL W.MF W.FFI hr3 (by rfl) W.R.cF.mgC W.bFFI .nil ah (@aj _ _ _ _ _ (pv 3) ae rfl)) rfl (Or.inl rfl)) (ao (@aS _ _ 5 _ _ _ _ dM.nd rfl (Or.inl rfl) (aB FLt hr3 (by rfl) mLt kLt bLt .nil ah (@aj _ _ _ _ _ (pv 2) (@aj _ _ _ _ _ (pv 3) ae rfl) rfl)) rfl (Or.inl rfl)) (ao (bJ (cc (cb (aB FR hr8 (by rfl) mR kR bR .nil ah (@aj _ _ _ _ _ (pv 4) (@aj _ _ _ _ _ (pv 3) (@aj _ _ _ _ _ (pv 5) ae rfl) rfl) rfl)))) (av (aD c7)) aO) (xR hr8 W))))))) (av (aD c7)),?_⟩
  refine ⟨_,rfl,a,_,rfl,.inl scr.sq,_,_,rfl,_,_,rfl,_,rfl,?_,?_,?_⟩
  ·rw [List.length_map]
   split <;> split <;> omega
  ·rw [List.length_map]
   split <;> split <;> omega
  refine mw (lo:=0) (fun i σ H'=>∃ (o1 o2 o3 o4 o5 o6 o7 o8 o9 o10 o11 o12 o13:Option V),σ=[some (.ref a),o1,o2,o3,o4,o5,o6,o7,o8,o9,o10,o11,o12,o13]∧yH K H' a ns) ⟨none,none,none,none,none,none,none,none,none,none,none,none,none,rfl,scr⟩ ?_ ?_
  ·rintro i σ G0 hi ⟨o1,o2,o3,o4,o5,o6,o7,o8,o9,o10,o11,o12,o13,rfl,sc0⟩
   have hi60:i < 60:=by
    rw [List.length_map] at hi
    split at hi <;> split at hi <;> omega
   refine ⟨_,rfl,_,rfl,a,ns,0 + (i:Int),rfl,sc0.sq,hlen,by omega,by omega,fun r l1 r1 hr0 hr1 hr2=>?_⟩
   have S1:=ak (o:=.lst [.int l1,.int r1]) hr0
   have sc1:=sc0.same S1
   have R1:aU (upd G0 r (.lst [.int l1,.int r1])) r:=⟨l1,r1,ag,hr1,hr2⟩
   generalize (upd G0 r (.lst [.int l1,.int r1]))=G1 at sc1 R1 ⊢
   clear sc0 hr0 S1
   refine ⟨_,rfl,r,rfl,R1,fun p G2 hp R2 S2=>?_⟩
   have sc2:=sc1.keep (aM.but R1 S2)
   clear sc1 S2 R1
   refine ⟨_,rfl,fun fl dxf hfl hdxf ne=>?_⟩
   have hS:aA G2 (upd (upd G2 dxf (.own fl)) fl (.ins CF dxf [])):=(ak hdxf).trans (ak (by rw [aq (Ne.symm ne)]; exact hfl))
   refine ⟨fl,dxf,.int p,_,rfl,.int p,ag,fun _=>⟨rfl,?_⟩,fun z=>by rw [hp.good] at z; cases z⟩
   have S3:aA G2 (upd (upd (upd G2 dxf (.own fl)) fl (.ins CF dxf [])) fl (.ins CF dxf [("its_prime",.int p)])):=fun c u e=>by
    rw [aq (au e hfl)]
    exact hS _ _ e
   have e3:upd (upd (upd G2 dxf (.own fl)) fl (.ins CF dxf [])) fl (.ins CF dxf [("its_prime",.int p)]) fl=some (.ins CF dxf (dD p)):=ag
   generalize upd (upd (upd G2 dxf (.own fl)) fl (.ins CF dxf [])) fl (.ins CF dxf [("its_prime",.int p)])=G3 at S3 e3 ⊢
   have R3:=R2.same S3
   have sc3:=sc2.same S3
   clear hS hfl hdxf S3 R2 sc2
   refine ⟨_,rfl,_,rfl,r,p,rfl,R3,hp,fun L ys ts G4 hL0 hL ht h8 tg R4 S4=>?_⟩
   have k4:=aM.but R3 S4
   have e4:=k4.ins e3
   have sc4:=sc3.keep k4
   have nL:L≠r:=R3.ne hL0
   clear k4 S4 R3 sc3 e3
   refine ⟨_,rfl,_,rfl,_,rfl,fl,dxf,L,p,ys,ts,rfl,e4,hp,hL,ht,h8,tg,fun G5 S5=>⟨_,rfl,cf ?_⟩⟩
   refine ⟨fl,dxf,r,L,p,ys,ts,_,_,_,_,_,_,_,_,_,_,rfl,S5 _ _ e4,hp,R4.same S5,nL,S5 _ _ hL,bh.keep ht (aF.of S5),h8,tg,fun a b c u v x y z H9 k9=>?_⟩
   exact ⟨_,_,_,_,_,_,_,_,_,_,_,_,_,rfl,(sc4.same S5).keep k9⟩
  ·rintro σ H' ⟨o1,o2,o3,o4,o5,o6,o7,o8,o9,o10,o11,o12,o13,rfl,_⟩
   exact fin H'
end
end K04
namespace Hd
open PySem PySem.W PyProof.Rows
def pQ (K:Frag)(x qual:Str)(st:Stmt)(f:Addr):Prop:=∃ (oc:Value)(od:Option Addr)(kV doc pm:Value)(an:Option Addr)(cdv ct:Value)(osl:Array (Option Value)),
 K.lookup f=some ⟨oc,od,.func (fnOf x qual (L2.cZ st) (L2.cm st) (L2.ar st) .none kV doc pm an cdv ct),osl⟩∧codeIn K cdv qual=true∧keepIn K (.ref f)=true
theorem aW {K:Frag}{v:Option (Option Value)}{x qual:Str}{st:Stmt}(h:bx K v=eA x qual st)(b:dY K v qual=true):v=some (some (.ref (dB v)))∧pQ K x qual st (dB v):=by
 unfold bx at h
 obtain ⟨fd,e,s⟩:=Option.map_eq_some_iff.mp (show (oX K v).map Cv=some _ from h)
 unfold dY at b
 rw [e] at b
 rw [Bool.and_eq_true] at b
 unfold oX at e
 split at e
 ·rename_i f
  split at e
  ·rename_i oc od fd' osl hl
   cases e
   refine ⟨rfl,oc,od,fd.kwdefaults,fd.doc,fd.pyModule,fd.annotations,fd.code,fd.closureTuple,osl,?_,b.2,b.1⟩
   show K.lookup f=_
   rw [hl]
   obtain ⟨n,q,p,bd,sc,g,c,dv,kv,dc,pm,an,cd,ct,bl⟩:=fd
   unfold Cv at s
   simp only [Prod.mk.injEq] at s
   obtain ⟨rfl,rfl,rfl,rfl,rfl,rfl,rfl,rfl,rfl⟩:=s
   rfl
  ·cases e
 ·cases e
theorem pQ.fn {K:Frag}{x qual:Str}{st:Stmt}{f:Addr}(d:pQ K x qual st f):∃ fd,L2.Fun K x qual st f fd:=by
 obtain ⟨oc,od,kV,doc,pm,an,cdv,ct,osl,l,c,k⟩:=d
 exact ⟨_,L2.Bh l c k⟩
theorem pQ.keep {K:Frag}{x qual:Str}{st:Stmt}{f:Addr}(d:pQ K x qual st f):keepIn K (.ref f)=true:=by
 obtain ⟨oc,od,kV,doc,pm,an,cdv,ct,osl,l,c,k⟩:=d
 exact k
def xv (K:Frag)(x qual:Str)(st:Stmt)(f T:Addr):Prop:=∃ (oc:Value)(od:Option Addr)(kV doc pm:Value)(an:Option Addr)(cdv ct:Value)(osl:Array (Option Value)),
 K.lookup f=some ⟨oc,od,.func (fnOf x qual (L2.cZ st) (L2.cm st) (L2.ar st) (.ref T) kV doc pm an cdv ct),osl⟩∧codeIn K cdv qual=true∧keepIn K (.ref f)=true
theorem nk {K:Frag}{v:Option (Option Value)}{x qual:Str}{st:Stmt}(h:ir K v=eA x qual st)(b:dY K v qual=true)(d:vj K v=true):v=some (some (.ref (dB v)))∧xv K x qual st (dB v) (ph K v):=by
 unfold ir at h
 obtain ⟨fd,e,s⟩:=Option.map_eq_some_iff.mp (show (oX K v).map (fun fd=>Cv { fd with defaults:=.none })=some _ from h)
 have hd:fd.defaults = .ref (ph K v):=by
  unfold vj DN at d
  unfold ph DN
  rw [e] at d ⊢
  dsimp only at d ⊢
  cases q:fd.defaults with
  | ref a=>rfl
  | _=>rw [q] at d; cases d
 unfold dY at b
 rw [e] at b
 rw [Bool.and_eq_true] at b
 generalize ph K v=T at hd
 unfold oX at e
 split at e
 ·rename_i f
  split at e
  ·rename_i oc od fd' osl hl
   cases e
   refine ⟨rfl,oc,od,fd.kwdefaults,fd.doc,fd.pyModule,fd.annotations,fd.code,fd.closureTuple,osl,?_,b.2,b.1⟩
   show K.lookup f=_
   rw [hl]
   obtain ⟨n,q,p,bd,sc,g,c,dv,kv,dc,pm,an,cd,ct,bl⟩:=fd
   unfold Cv at s
   simp only [Prod.mk.injEq] at s
   have hd:dv = .ref T:=hd
   subst hd
   obtain ⟨rfl,rfl,rfl,rfl,rfl,rfl,rfl,_,rfl⟩:=s
   rfl
  ·cases e
 ·cases e
theorem xv.fn {K:Frag}{x qual:Str}{st:Stmt}{f T:Addr}(d:xv K x qual st f T):∃ fd,L2.FunD K x qual st f fd T:=by
 obtain ⟨oc,od,kV,doc,pm,an,cdv,ct,osl,l,c,k⟩:=d
 exact ⟨_,L2.yN l c k⟩
theorem xv.keep {K:Frag}{x qual:Str}{st:Stmt}{f T:Addr}(d:xv K x qual st f T):keepIn K (.ref f)=true:=by
 obtain ⟨oc,od,kV,doc,pm,an,cdv,ct,osl,l,c,k⟩:=d
 exact k
theorem pf:∀ {vs:List Value}{ns:List Int},sN vs ns=true->L2.aG (ns.map L2.V.int) vs
 | [],[],_=>.nil
 | v :: vs,n :: ns,h=>by
   unfold sN at h
   rw [Bool.and_eq_true] at h
   obtain ⟨t,rfl⟩:=kr h.1
   exact .cons ⟨t,rfl⟩ (pf h.2)
 | [],_ :: _,h=>by cases h
 | _ :: _,[],h=>by cases h
theorem sQ {K:Frag}{a:Addr}{ns:List Int}(h:vR K a ns=true)(H:L2.Hp):L2.bf K H a (ns.map L2.V.int):=by
 unfold vR at h
 split at h
 ·rename_i o ho
  rw [Bool.and_eq_true] at h
  obtain ⟨h1,h2⟩:=h
  split at h1
  ·rename_i T hT
   split at h2
   ·rename_i its n hd
    rw [Bool.and_eq_true] at h2
    have:T="tuple":=by simpa using h1
    subst this
    exact .inr ⟨o,its,n,ho,hT,hd,of_decide_eq_true h2.2,pf h2.1⟩
   ·cases h2
  ·cases h1
 ·cases h
theorem rE {K:Frag}(h:wR K=true):L2.rh K:=by
 unfold wR at h
 split at h
 ·rename_i o ho
  split at h
  ·rename_i T hT
   have:T="dict":=by simpa using h
   subst this
   exact ⟨o,ho,hT⟩
  ·cases h
 ·cases h
open L2 in
theorem vx {l:OpenLaw}{n k:Nat}{q:Program}{loose:List Str}{XP:(Str->Option Value)->Heap->Prop}{YP:World->Heap->Prop}{d:DefRec}{CX:World->CXT}{sp:Frag->Sp}{x:Str}{φ:Frag->Prop}{tabs:Frag->List (Addr × Addr)}
 (hn:l.most=some n)(hn2:n≤sizeLine)(hdf:d.params.defaults=[])(hr:Room k callerA)
 (hY:∀ (w:World)(h:Heap),YP w h->∃ K:Frag,φ K∧K.In h)
 (hT:∀ (w:World)(s₀:Shared)(mg mb:Str->Option Value)(h:Heap)(K:Frag),φ K->Ground q loose [] XP w s₀ mg mb h->K.In h->TabsAt (tabs K) h∧∀ r∈tabs K,K.lookup r.2=none)
 (F:∀ (w:World)(K:Frag)(mg:Str->Option Value)(fa:Addr)(h:Heap),φ K->K.In h->h.Ns mainGlobals mg->mg d.name=some (.ref fa) →
  ∃ fd:FuncData,(∀ (s:Shared)(u:Value),BindsTo s fd ⟨[u],[]⟩ [(x,u)])∧∀ base:Heap,K.In base->base.Ns mainGlobals mg->BaseT (tabs K) mg base->FnOk l.prog w K mg base (CX w) k fa fd [x] (sp K))
 (hsp:∀ (K:Frag)(H:Hp)(a:Addr)(ns:List Int),ns.length≤n->xS (tabs K) H->br K H a (ns.map V.int)->sp K [.ref a] H (fun v _=>v = .bl true) fun _ _ _=>False)
 (hCX:∀ (w:World)(H:Hp)(s:Shared)(e:Value)(s':Shared),CX w [] H s (fun _ _ _=>False) e s'->False):
 WalkO q loose XP YP l.row.toRowW d [] (fun f vs=>PySem.call f vs):=by
 refine Att.oE hn hdf fun w s₀ s₁ mg mb fa o pm cd doc a vs ns G Y ho hd hcd hmg hobj hints hlen hg=>?_
 obtain ⟨K,hφ,KX⟩:=hY w _ Y
 obtain ⟨fd,hb,hF⟩:=F w K mg fa _ hφ KX G.T.g hmg
 obtain ⟨t1,t2⟩:=hT w s₀ mg mb _ K hφ G KX
 exact uA KX G.T.g G.T.b G.T.builtins G.T.nolimit hg hobj hints (Nat.le_trans hlen hn2) hr t1 t2 G.T.bmain hF hb (fun H hO hS=>hsp K H a ns hlen hO hS) fun H e s'=>hCX w H s₁ e s'
open L2
theorem zP (l:List Value):zZ l=g9 l:=by
 induction l with
 | nil=>rfl
 | cons v r ih =>
   cases v with
   | ref a=>exact ih
   | _=>rfl
theorem xo {α:Type}{o:Option α}{p:α->Bool}(h:o.any p=true):∃ v,o=some v∧p v=true:=by
 cases o with
 | none=>cases h
 | some v=>exact ⟨v,rfl,h⟩
section
variable {P:Program}{w:World}{K:Frag}{mg:Str->Option Value}{base:Heap}{x:Str}{C f:Addr}{fd:FuncData}{ps:List Str}{sp:Sp}
theorem tG (h:wX K C f Az Ax "ValueError.__new__"=true)(k:ExcK K C)(sa:findIn K (.ref C) "__setattr__"=some (some (.builtin "object.__setattr__"))):ExcS K C:=by
 simp only [wX,Bool.and_eq_true] at h
 refine ⟨k,?_,sa⟩
 obtain ⟨cd,e,q⟩:=xo h.2.1
 rw [e]
 rw [zP] at q
 exact q
theorem Dx (hm:mg x=some (.ref C))(h:wX K C f Az Ax "ValueError.__new__"=true)(k:ExcK K C)(sa:findIn K (.ref C) "__setattr__"=some (some (.builtin "object.__setattr__")))(F:FnOk P w K mg base (bz P w) 1 f fd ps sp)(b:L2.aH K fd ps []):IK P w K mg base x C ps sp:=by
 have s:=tG h k sa
 simp only [wX,Bool.and_eq_true] at h
 obtain ⟨h0,_,h4,h5,h6⟩:=h
 obtain ⟨oC,e1,e2⟩:=xo h4
 obtain ⟨oI,e3,e4⟩:=xo h5
 exact ⟨hm,h0,s,k,⟨oC,e1,eq_of_beq e2⟩,⟨f,fd,oI,_,_,_,_,_,_,PySem.F.excBase_ValueError,by decide +kernel,qV,h6,e3,eq_of_beq e4,F,b⟩⟩
end
end Hd
namespace K04
open PySem L2 PySem.W Nm
open Hd (gv ga fv dB e8 cJ c6 bq ja cY isT dU dY bx ir eA vj ph u3 jn v5 n9 isI kr uh jg vR wR aW nk sQ rE)
section
variable {K:Frag}{f T:Addr}{fd:FuncData}{oT:Obj}{t:Tok}{n:Nat}
theorem Dy (F:FunD K "__init__" "Field.__init__" xm f fd T)(lT:K.lookup T=some oT)(dT:oT.data = .seq #[.int 0 t] n):L2.aH K fd ["self","prime"] []:=by
 obtain ⟨oc,od,kV,doc,pm,an,cdv,ct,osl,rfl,lk,hcd⟩:=F.ex
 intro s us KX hl
 cases us with
 | nil=>simp at hl
 | cons a0 r1 =>
   cases r1 with
   | nil=>simp at hl
   | cons a1 r2 =>
     cases r2 with
     | nil=>exact binds_K KX rfl lT dT rfl rfl
     | cons a r=>simp at hl
theorem BF (F:FunD K "__init__" "Sum.__init__" iw f fd T)(lT:K.lookup T=some oT)(dT:oT.data = .seq #[.none] n):L2.aH K fd ["self","field","terms"] []:=by
 obtain ⟨oc,od,kV,doc,pm,an,cdv,ct,osl,rfl,lk,hcd⟩:=F.ex
 intro s us KX hl
 cases us with
 | nil=>simp at hl
 | cons a0 r1 =>
   cases r1 with
   | nil=>simp at hl
   | cons a1 r2 =>
     cases r2 with
     | nil=>simp at hl
     | cons a2 r3 =>
       cases r3 with
       | nil=>exact binds_K KX rfl lT dT rfl rfl
       | cons a r=>simp at hl
theorem za (F:FunD K "__init__" "Sum.__init__" iw f fd T)(lT:K.lookup T=some oT)(dT:oT.data = .seq #[.none] n):L2.aH K fd ["self","field","terms"] [.none]:=by
 obtain ⟨oc,od,kV,doc,pm,an,cdv,ct,osl,rfl,lk,hcd⟩:=F.ex
 intro s us KX hl
 cases us with
 | nil=>simp at hl
 | cons a0 r1 =>
   cases r1 with
   | nil=>simp at hl
   | cons a1 r2 =>
     cases r2 with
     | nil=>exact binds_K KX rfl lT dT rfl rfl
     | cons a r=>simp at hl
theorem BI (F:FunD K "__init__" "Sum.__init__" iw f fd T)(lT:K.lookup T=some oT)(dT:oT.data = .seq #[.none] n):KBinds K fd ["self","field","terms"] ["terms"] DI g21V:=by
 obtain ⟨oc,od,kV,doc,pm,an,cdv,ct,osl,rfl,lk,hcd⟩:=F.ex
 refine ⟨fun s us ws KX hl=>?_,zf⟩
 obtain ⟨a,b,c,rfl,rfl⟩:=ze hl
 exact binds_K KX rfl lT dT rfl rfl
theorem zi (F:FunD K "__init__" "Sum.__init__" iw f fd T)(lT:K.lookup T=some oT)(dT:oT.data = .seq #[.none] n):KBinds K fd ["self","field","terms"] ["field","terms"] CZ g12V:=by
 obtain ⟨oc,od,kV,doc,pm,an,cdv,ct,osl,rfl,lk,hcd⟩:=F.ex
 refine ⟨fun s us ws KX hl=>?_,zp⟩
 obtain ⟨a,b,c,rfl,rfl⟩:=Av hl
 exact binds_K KX rfl lT dT rfl rfl
end
def xJ (_:World)(h:Heap):Prop:=∃ K:Frag,uC K=dueK∧K.In h
theorem zB (w:World)(s:Shared)(e:uC (Hd.xD places s.heap)=dueK):xJ w s.heap:=⟨_,e,Hd.nh _ _⟩
theorem rg (w:World)(h h':Heap)(y:xJ w h)(k:∀ (b:Addr)(o:Obj),h.get? b=some o->h'.get? b=some o):xJ w h':=let ⟨K,e,i⟩:=y; ⟨K,e,fun a o q=>k a o (i a o q)⟩
set_option maxHeartbeats 0 in
theorem qo {l:OpenLaw}{w:World}{K:Frag}{mg:Str->Option Value}{h:Heap}{fa:Addr}(o:uC K=dueK)(X:K.In h)(G:h.Ns mainGlobals mg)(hfa:mg "law"=some (.ref fa)):
 ∃ fd:FuncData,(∀ (s:Shared)(v:Value),BindsTo s fd ⟨[v],[]⟩ [("_law_script",v)])∧∀ base:Heap,K.In base->base.Ns mainGlobals mg->BaseT [] mg base->FnOk l.prog w K mg base (bz l.prog w) 9 fa fd ["_law_script"] (xi K):=by
 obtain ⟨o1,o2⟩:=Prod.mk.inj (show (qb K,_)=(true,_) from o)
 simp only [List.cons.injEq,and_true] at o2
 obtain ⟨s0,s1,s2,s3,s4,s5,s6,s7,s8,s9,s10,s11,s12,s13,s14,s15,s16,s17,s18,s19,s20,s21,s22,s23,s24,s25,s26,s27,s28,s29,s30,s31,s32,s33,s34,s35⟩:=o2
 unfold qb at o1
 simp only [Bool.and_eq_true] at o1
 obtain ⟨g0,g1,g2,g3,g4,g5,g6,g7⟩:=o1
 unfold EZ at g0
 simp only [Bool.and_eq_true] at g0
 obtain ⟨h0,h1,h2,h3,h4,h5,h6,h7,h8,h9,h10,h11,h12,h13,h14,h15⟩:=g0
 unfold EM at g1
 simp only [Bool.and_eq_true] at g1
 obtain ⟨h16,h17,h18,h19,h20,h21,h22,h23,h24,h25,h26,h27,h28,h29,h30,h31⟩:=g1
 unfold EX at g2
 simp only [Bool.and_eq_true] at g2
 obtain ⟨h32,h33,h34,h35,h36,h37,h38,h39,h40,h41,h42,h43,h44,h45,h46,h47⟩:=g2
 unfold EY at g3
 simp only [Bool.and_eq_true] at g3
 obtain ⟨h48,h49,h50,h51,h52,h53,h54,h55,h56,h57,h58,h59,h60,h61,h62,h63⟩:=g3
 unfold EK at g4
 simp only [Bool.and_eq_true] at g4
 obtain ⟨h64,h65,h66,h67,h68,h69,h70,h71,h72,h73,h74,h75,h76,h77,h78,h79⟩:=g4
 unfold EN at g5
 simp only [Bool.and_eq_true] at g5
 obtain ⟨h80,h81,h82,h83,h84,h85,h86,h87,h88,h89,h90,h91,h92,h93,h94,h95⟩:=g5
 unfold E4 at g6
 simp only [Bool.and_eq_true] at g6
 obtain ⟨h96,h97,h98,h99,h100,h101,h102,h103,h104,h105,h106,h107,h108,h109,h110,h111⟩:=g6
 unfold ET at g7
 simp only [Bool.and_eq_true] at g7
 obtain ⟨h112,h113⟩:=g7
 have m:=fun {n:Str}{v:Value}(e:nsIn K mainGlobals n=some (some v))=>mg_of X G e
 have m0:=fun {n:Str}(e:nsIn K mainGlobals n=some none)=>mg_none_of X G e
 have m_isinstance:=m0 (bq h0)
 have m_int:=m0 (bq h1)
 have m_bool:=m0 (bq h2)
 have m_ValueError:=m0 (bq h3)
 have m_abs:=m0 (bq h4)
 have m_len:=m0 (bq h5)
 have m_tuple:=m0 (bq h6)
 have m_all:=m0 (bq h7)
 have m_zip:=m0 (bq h8)
 have m_list:=m0 (bq h9)
 have m_enumerate:=m0 (bq h10)
 have m_sorted:=m0 (bq h11)
 have m_max:=m0 (bq h12)
 have m_min:=m0 (bq h13)
 have m_set:=m0 (bq h14)
 have m_range:=m0 (bq h15)
 have m_repr:=m0 (bq h16)
 have r_Sum:=m (cJ h17)
 have r_Field:=m (cJ h18)
 have r_FalseError:=m (cJ h19)
 have r_NoField:=m (cJ h20)
 have r_NoNumber:=m (cJ h21)
 have r_NoSum:=m (cJ h22)
 have r_PRIMES:=m (cJ h23)
 obtain ⟨t_FRACTIONS,q_FRACTIONS⟩:=jg h24
 have g_FRACTIONS:=m q_FRACTIONS
 obtain ⟨t_MOST_PLACES,q_MOST_PLACES⟩:=jg h25
 have g_MOST_PLACES:=m q_MOST_PLACES
 obtain ⟨e_a0,d_a0⟩:=aW s0 h26
 have mg_a0:=m e_a0
 have k_a0:=d_a0.keep
 obtain ⟨fd_a0,F_a0⟩:=d_a0.fn
 have b_a0:=F_a0.binds (ps:=["thing"]) fun _ _ _ _ _ _ us hl=>match us,hl with | [_],_=>rfl
 obtain ⟨e_a1,d_a1⟩:=aW s1 h27
 have mg_a1:=m e_a1
 have k_a1:=d_a1.keep
 obtain ⟨fd_a1,F_a1⟩:=d_a1.fn
 have b_a1:=F_a1.binds (ps:=["thing"]) fun _ _ _ _ _ _ us hl=>match us,hl with | [_],_=>rfl
 obtain ⟨e_a2,d_a2⟩:=aW s2 h28
 have mg_a2:=m e_a2
 have k_a2:=d_a2.keep
 obtain ⟨fd_a2,F_a2⟩:=d_a2.fn
 have b_a2:=F_a2.binds (ps:=["thing"]) fun _ _ _ _ _ _ us hl=>match us,hl with | [_],_=>rfl
 obtain ⟨e_a3,d_a3⟩:=aW s3 h29
 have mg_a3:=m e_a3
 have k_a3:=d_a3.keep
 obtain ⟨fd_a3,F_a3⟩:=d_a3.fn
 have b_a3:=F_a3.binds (ps:=["field","thing"]) fun _ _ _ _ _ _ us hl=>match us,hl with | [_,_],_=>rfl
 obtain ⟨e_a4,d_a4⟩:=aW s4 h30
 have mg_a4:=m e_a4
 have k_a4:=d_a4.keep
 obtain ⟨fd_a4,F_a4⟩:=d_a4.fn
 have b_a4:=F_a4.binds (ps:=["field","terms"]) fun _ _ _ _ _ _ us hl=>match us,hl with | [_,_],_=>rfl
 obtain ⟨e_a5,d_a5⟩:=aW s5 h31
 have mg_a5:=m e_a5
 have k_a5:=d_a5.keep
 obtain ⟨fd_a5,F_a5⟩:=d_a5.fn
 have b_a5:=F_a5.binds (ps:=["term"]) fun _ _ _ _ _ _ us hl=>match us,hl with | [_],_=>rfl
 obtain ⟨e_a6,d_a6⟩:=aW s6 h32
 have mg_a6:=m e_a6
 have k_a6:=d_a6.keep
 obtain ⟨fd_a6,F_a6⟩:=d_a6.fn
 have b_a6:=F_a6.binds (ps:=["field","terms"]) fun _ _ _ _ _ _ us hl=>match us,hl with | [_,_],_=>rfl
 obtain ⟨e_a7,d_a7⟩:=aW s7 h33
 have mg_a7:=m e_a7
 have k_a7:=d_a7.keep
 obtain ⟨fd_a7,F_a7⟩:=d_a7.fn
 have b_a7:=F_a7.binds (ps:=["one","other"]) fun _ _ _ _ _ _ us hl=>match us,hl with | [_,_],_=>rfl
 obtain ⟨e_a8,d_a8⟩:=aW s8 h34
 have mg_a8:=m e_a8
 have k_a8:=d_a8.keep
 obtain ⟨fd_a8,F_a8⟩:=d_a8.fn
 have b_a8:=F_a8.binds (ps:=["top","bottom"]) fun _ _ _ _ _ _ us hl=>match us,hl with | [_,_],_=>rfl
 obtain ⟨e_a9,d_a9⟩:=aW s9 h35
 have mg_a9:=m e_a9
 have k_a9:=d_a9.keep
 obtain ⟨fd_a9,F_a9⟩:=d_a9.fn
 have b_a9:=F_a9.binds (ps:=["_law_script","_law_k"]) fun _ _ _ _ _ _ us hl=>match us,hl with | [_,_],_=>rfl
 obtain ⟨e_a10,d_a10⟩:=aW s10 h36
 have mg_a10:=m e_a10
 have k_a10:=d_a10.keep
 obtain ⟨fd_a10,F_a10⟩:=d_a10.fn
 have b_a10:=F_a10.binds (ps:=["_law_room_here","_law_many"]) fun _ _ _ _ _ _ us hl=>match us,hl with | [_,_],_=>rfl
 obtain ⟨e_a11,d_a11⟩:=aW s11 h37
 have mg_a11:=m e_a11
 have k_a11:=d_a11.keep
 obtain ⟨fd_a11,F_a11⟩:=d_a11.fn
 have b_a11:=F_a11.binds (ps:=["_law_top","_law_bottom"]) fun _ _ _ _ _ _ us hl=>match us,hl with | [_,_],_=>rfl
 obtain ⟨e_a12,d_a12⟩:=aW s12 h38
 have mg_a12:=m e_a12
 have k_a12:=d_a12.keep
 obtain ⟨fd_a12,F_a12⟩:=d_a12.fn
 have b_a12:=F_a12.binds (ps:=["_law_thing"]) fun _ _ _ _ _ _ us hl=>match us,hl with | [_],_=>rfl
 obtain ⟨e_a13,d_a13⟩:=aW s13 h39
 have mg_a13:=m e_a13
 have k_a13:=d_a13.keep
 obtain ⟨fd_a13,F_a13⟩:=d_a13.fn
 have b_a13:=F_a13.binds (ps:=["_law_prime_here","_law_thing"]) fun _ _ _ _ _ _ us hl=>match us,hl with | [_,_],_=>rfl
 obtain ⟨e_a14,d_a14⟩:=aW s14 h40
 have mg_a14:=m e_a14
 have k_a14:=d_a14.keep
 obtain ⟨fd_a14,F_a14⟩:=d_a14.fn
 have b_a14:=F_a14.binds (ps:=["_law_prime_here","_law_top","_law_bottom"]) fun _ _ _ _ _ _ us hl=>match us,hl with | [_,_,_],_=>rfl
 obtain ⟨e_a15,d_a15⟩:=aW s15 h41
 have mg_a15:=m e_a15
 have k_a15:=d_a15.keep
 obtain ⟨fd_a15,F_a15⟩:=d_a15.fn
 have b_a15:=F_a15.binds (ps:=["_law_prime_here","_law_one","_law_other"]) fun _ _ _ _ _ _ us hl=>match us,hl with | [_,_,_],_=>rfl
 obtain ⟨e_a16,d_a16⟩:=aW s16 h42
 have mg_a16:=m e_a16
 have k_a16:=d_a16.keep
 obtain ⟨fd_a16,F_a16⟩:=d_a16.fn
 have b_a16:=F_a16.binds (ps:=["_law_room_here"]) fun _ _ _ _ _ _ us hl=>match us,hl with | [_],_=>rfl
 obtain ⟨e_a17,d_a17⟩:=aW s17 h43
 have mg_a17:=m e_a17
 have k_a17:=d_a17.keep
 obtain ⟨fd_a17,F_a17⟩:=d_a17.fn
 have b_a17:=F_a17.binds (ps:=["_law_room_here","_law_prime_here"]) fun _ _ _ _ _ _ us hl=>match us,hl with | [_,_],_=>rfl
 obtain ⟨e_a18,d_a18⟩:=aW s18 h44
 have mg_a18:=m e_a18
 have k_a18:=d_a18.keep
 obtain ⟨fd_a18,F_a18⟩:=d_a18.fn
 have b_a18:=F_a18.binds (ps:=["_law_prime_here","_law_some"]) fun _ _ _ _ _ _ us hl=>match us,hl with | [_,_],_=>rfl
 obtain ⟨e_a19,d_a19⟩:=aW s19 h45
 have mg_a19:=m e_a19
 have k_a19:=d_a19.keep
 obtain ⟨fd_a19,F_a19⟩:=d_a19.fn
 have b_a19:=F_a19.binds (ps:=["_law_room_here","_law_prime_here"]) fun _ _ _ _ _ _ us hl=>match us,hl with | [_,_],_=>rfl
 obtain ⟨e_a20,d_a20⟩:=aW s20 h46
 have mg_a20:=m e_a20
 have k_a20:=d_a20.keep
 obtain ⟨fd_a20,F_a20⟩:=d_a20.fn
 have b_a20:=F_a20.binds (ps:=["_law_room_here","_law_term"]) fun _ _ _ _ _ _ us hl=>match us,hl with | [_,_],_=>rfl
 obtain ⟨e_a21,d_a21⟩:=aW s21 h47
 have mg_a21:=m e_a21
 have k_a21:=d_a21.keep
 obtain ⟨fd_a21,F_a21⟩:=d_a21.fn
 have b_a21:=F_a21.binds (ps:=["_law_prime_here","_law_term"]) fun _ _ _ _ _ _ us hl=>match us,hl with | [_,_],_=>rfl
 obtain ⟨e_a22,d_a22⟩:=aW s22 h48
 have mg_a22:=m e_a22
 have k_a22:=d_a22.keep
 obtain ⟨fd_a22,F_a22⟩:=d_a22.fn
 have b_a22:=F_a22.binds (ps:=["_law_own","_law_some"]) fun _ _ _ _ _ _ us hl=>match us,hl with | [_,_],_=>rfl
 obtain ⟨e_a23,d_a23⟩:=aW s23 h49
 have mg_a23:=m e_a23
 have k_a23:=d_a23.keep
 obtain ⟨fd_a23,F_a23⟩:=d_a23.fn
 have b_a23:=F_a23.binds (ps:=["_law_own","_law_prime_here","_law_some"]) fun _ _ _ _ _ _ us hl=>match us,hl with | [_,_,_],_=>rfl
 obtain ⟨e_a24,d_a24⟩:=aW s24 h50
 have mg_a24:=m e_a24
 have e_fa:=hfa.symm.trans mg_a24
 cases e_fa
 have k_a24:=d_a24.keep
 obtain ⟨fd_a24,F_a24⟩:=d_a24.fn
 have b_a24:=F_a24.binds (ps:=["_law_script"]) fun _ _ _ _ _ _ us hl=>match us,hl with | [_],_=>rfl
 obtain ⟨e_sf,d_sf⟩:=aW s25 h51
 have i_sf:=h52
 have M_sf:L2.Meth K _ "field" _:=⟨e_sf,h52,d_sf.keep⟩
 obtain ⟨fd_sf,F_sf⟩:=d_sf.fn
 have b_sf:=F_sf.binds (ps:=["self"]) fun _ _ _ _ _ _ us hl=>match us,hl with | [_],_=>rfl
 obtain ⟨e_st,d_st⟩:=aW s26 h53
 have i_st:=h54
 have M_st:L2.Meth K _ "terms" _:=⟨e_st,h54,d_st.keep⟩
 obtain ⟨fd_st,F_st⟩:=d_st.fn
 have b_st:=F_st.binds (ps:=["self"]) fun _ _ _ _ _ _ us hl=>match us,hl with | [_],_=>rfl
 obtain ⟨e_sd,d_sd⟩:=aW s27 h55
 have i_sd:=h56
 have M_sd:L2.Meth K _ "degree" _:=⟨e_sd,h56,d_sd.keep⟩
 obtain ⟨fd_sd,F_sd⟩:=d_sd.fn
 have b_sd:=F_sd.binds (ps:=["self"]) fun _ _ _ _ _ _ us hl=>match us,hl with | [_],_=>rfl
 obtain ⟨e_ln,d_ln⟩:=aW s28 h57
 have i_ln:=h58
 have M_ln:L2.Meth K _ "__len__" _:=⟨e_ln,h58,d_ln.keep⟩
 obtain ⟨fd_ln,F_ln⟩:=d_ln.fn
 have b_ln:=F_ln.binds (ps:=["self"]) fun _ _ _ _ _ _ us hl=>match us,hl with | [_],_=>rfl
 obtain ⟨e_eq,d_eq⟩:=aW s29 h59
 have i_eq:=h60
 have M_eq:L2.Meth K _ "__eq__" _:=⟨e_eq,h60,d_eq.keep⟩
 obtain ⟨fd_eq,F_eq⟩:=d_eq.fn
 have b_eq:=F_eq.binds (ps:=["self","other"]) fun _ _ _ _ _ _ us hl=>match us,hl with | [_,_],_=>rfl
 obtain ⟨e_pl,d_pl⟩:=aW s30 h61
 have i_pl:=h62
 have M_pl:L2.Meth K _ "plus" _:=⟨e_pl,h62,d_pl.keep⟩
 obtain ⟨fd_pl,F_pl⟩:=d_pl.fn
 have b_pl:=F_pl.binds (ps:=["self","one","other"]) fun _ _ _ _ _ _ us hl=>match us,hl with | [_,_,_],_=>rfl
 obtain ⟨e_se,d_se⟩:=aW s31 h63
 have i_se:=h64
 have M_se:L2.Meth K _ "settled" _:=⟨e_se,h64,d_se.keep⟩
 obtain ⟨fd_se,F_se⟩:=d_se.fn
 have b_se:=F_se.binds (ps:=["self","top","bottom"]) fun _ _ _ _ _ _ us hl=>match us,hl with | [_,_,_],_=>rfl
 obtain ⟨e_nu,d_nu⟩:=aW s32 h65
 have i_nu:=h66
 have M_nu:L2.Meth K _ "is_number" _:=⟨e_nu,h66,d_nu.keep⟩
 obtain ⟨fd_nu,F_nu⟩:=d_nu.fn
 have b_nu:=F_nu.binds (ps:=["self","thing"]) fun _ _ _ _ _ _ us hl=>match us,hl with | [_,_],_=>rfl
 obtain ⟨e_ns,d_ns⟩:=aW s33 h67
 have i_ns:=h68
 have M_ns:L2.Meth K _ "__init__" _:=⟨e_ns,h68,d_ns.keep⟩
 obtain ⟨fd_ns,F_ns⟩:=d_ns.fn
 have b_ns:=F_ns.binds (ps:=["self","number"]) fun _ _ _ _ _ _ us hl=>match us,hl with | [_,_],_=>rfl
 obtain ⟨e_SI,d_SI⟩:=nk s34 h69 h71
 have i_SI:=h70
 have M_SI:L2.Meth K _ "__init__" _:=⟨e_SI,h70,d_SI.keep⟩
 obtain ⟨fd_SI,F_SI⟩:=d_SI.fn
 obtain ⟨o_SI,v_SI,n_SI,lT_SI,dT_SI,pv_SI⟩:=jn h72
 obtain ⟨e_FI,d_FI⟩:=nk s35 h73 h75
 have i_FI:=h74
 have M_FI:L2.Meth K _ "__init__" _:=⟨e_FI,h74,d_FI.keep⟩
 obtain ⟨fd_FI,F_FI⟩:=d_FI.fn
 obtain ⟨o_FI,v_FI,n_FI,lT_FI,dT_FI,pv_FI⟩:=jn h76
 have nv_SI:=n9 pv_SI
 subst nv_SI
 obtain ⟨t_FI,nv_FI⟩:=kr pv_FI
 subst nv_FI
 have bSI:=BF F_SI lT_SI dT_SI
 have bSI1:=za F_SI lT_SI dT_SI
 have bSIK:=BI F_SI lT_SI dT_SI
 have bSIKK:=zi F_SI lT_SI dT_SI
 have bFI:=Dy F_FI lT_FI dT_FI
 have N:Nones mg:=⟨m_isinstance,m_int,m_bool⟩
 have cF:FieldK K mg (ga K "Field"):=⟨⟨h77,h78,h79,cY h80⟩,bq h81,r_Field,(Bool.and_eq_true_iff.mpr h82),cY h83,cY h84,dU h85,dU h86⟩
 have c:SumK K mg (ga K "Sum"):=⟨⟨h87,h88,h89,cY h90⟩,bq h91,bq h92,r_Sum⟩
 have hP:=sQ h93
 have kNS:ExcK K (ga K "NoSum"):=⟨h98,cY h99,bq h100,cY h101,dU h102,dU h103⟩
 have saNS:findIn K (.ref (ga K "NoSum")) "__setattr__"=some (some (.builtin "object.__setattr__")):=cY h104
 have sNS:ExcS K (ga K "NoSum"):=Hd.tG h97 kNS saNS
 refine ⟨fd_a24,fun s v=>?_,fun base _ _ BT=>?_⟩
 ·obtain ⟨oc,od,kV,doc,pm,an,cdv,ct,osl,rfl,lk,hcd⟩:=F_a24.ex
  exact .of_eq rfl
 have G_a0:=yE (P:=l.prog) (w:=w) (base:=base) F_a0 N
 have G_a12:=ui (P:=l.prog) (w:=w) (base:=base) F_a12 N
 have G_a7:=Bx (P:=l.prog) (w:=w) (base:=base) F_a7 m_abs
 have G_a8:=ug (P:=l.prog) (w:=w) (base:=base) F_a8 G_a7 b_a7 mg_a7 k_a7
 have G_se:=qA (P:=l.prog) (w:=w) (base:=base) F_se cF g_FRACTIONS G_a8 b_a8 mg_a8 k_a8
 have G_pl:=y3 (P:=l.prog) (w:=w) (base:=base) F_pl cF G_se b_se M_se
 have G_FI:=zU (P:=l.prog) (w:=w) (base:=base) F_FI cF G_a0 b_a0 mg_a0 k_a0 g_FRACTIONS r_PRIMES hP r_NoField h94
 have G_nu:=pq (P:=l.prog) (w:=w) (base:=base) F_nu cF g_FRACTIONS N m_tuple m_len G_a7 b_a7 mg_a7 k_a7 G_a0 b_a0 mg_a0 k_a0
 have G_eq:=C8 (P:=l.prog) (w:=w) (base:=base) F_eq cF N
 have G_a1:=wY (P:=l.prog) (w:=w) (base:=base) F_a1 g_MOST_PLACES G_a0 b_a0 mg_a0 k_a0
 have G_a2:=rC (P:=l.prog) (w:=w) (base:=base) F_a2 m_isinstance m_tuple m_all m_zip G_a1 b_a1 mg_a1 k_a1
 have G_a3:=Ab (P:=l.prog) (w:=w) (base:=base) F_a3 cF m_isinstance m_tuple m_len G_a2 b_a2 mg_a2 k_a2 G_nu b_nu M_nu
 have G_a5:=qj (P:=l.prog) (w:=w) (base:=base) F_a5 m_len
 have IKN:IK l.prog w K mg base "NoSum" (ga K "NoSum") ["self","number"] (fT (ga K "NoSum") "number"):=Hd.Dx r_NoSum h97 kNS saNS (v3 F_ns sNS (bq h105)) b_ns
 have RF:RefN l.prog w K mg base _ _ _ _:=⟨IKN,bq h105,dU h107,r_FalseError,r_NoField,r_NoNumber,m_ValueError,dU h106,dU h108,dU h109⟩
 have G_a4:=uW (P:=l.prog) (w:=w) (base:=base) F_a4 m_isinstance m_list m_enumerate IKN G_a3 b_a3 mg_a3 k_a3
 have G_a6:=An (P:=l.prog) (w:=w) (base:=base) F_a6 cF m_sorted G_pl b_pl M_pl G_a5 b_a5 mg_a5
 have G_SI:=vw (P:=l.prog) (w:=w) (base:=base) F_SI c G_a6 b_a6 mg_a6 k_a6 G_a4 b_a4 mg_a4 k_a4
 have MkS:L2.Mk K _ _:=⟨h110,e_SI,i_SI,h111⟩
 have MkF:L2.Mk K _ _:=⟨h112,e_FI,i_FI,h113⟩
 have G_sf:=vE (P:=l.prog) (w:=w) (base:=base) (CF:=ga K "Field") F_sf c
 have G_st:=vq (P:=l.prog) (w:=w) (base:=base) (CF:=ga K "Field") F_st c m_list
 have G_sd:=yW (P:=l.prog) (w:=w) (base:=base) F_sd c m_len
 have G_ln:=yR (P:=l.prog) (w:=w) (base:=base) F_ln c m_len
 have G_a9:=zM (P:=l.prog) (w:=w) (base:=base) F_a9 m_len
 have G_a10:=Al (P:=l.prog) (w:=w) (base:=base) (mg:=mg) F_a10
 have G_a11:=zW (P:=l.prog) (w:=w) (base:=base) F_a11 m_abs m_int
 have G_a13:=y4 (P:=l.prog) (w:=w) (base:=base) F_a13 m_isinstance m_tuple m_len G_a12 b_a12 mg_a12 k_a12 G_a11 b_a11 mg_a11 k_a11
 have G_a14:=yP (P:=l.prog) (w:=w) (base:=base) F_a14 G_a11 b_a11 mg_a11 k_a11
 have G_a15:=vX (P:=l.prog) (w:=w) (base:=base) F_a15 G_a14 b_a14 mg_a14 k_a14
 have G_a16:=vy (P:=l.prog) (w:=w) (base:=base) F_a16 G_a10 b_a10 mg_a10 k_a10
 have G_a17:=uR (P:=l.prog) (w:=w) (base:=base) F_a17 G_a10 b_a10 mg_a10 k_a10 G_a11 b_a11 mg_a11 k_a11
 have G_a18:=wL (P:=l.prog) (w:=w) (base:=base) F_a18 m_sorted m_len G_a15 b_a15 mg_a15 k_a15
 have G_a19:=uZ (P:=l.prog) (w:=w) (base:=base) F_a19 m_range m_sorted m_set m_tuple G_a10 b_a10 mg_a10 k_a10 G_a17 b_a17 mg_a17 k_a17
 have G_a20:=Cp (P:=l.prog) (w:=w) (base:=base) F_a20 m_list G_a10 b_a10 mg_a10 k_a10
 have G_a21:=y9 (P:=l.prog) (w:=w) (base:=base) F_a21 m_isinstance m_tuple m_len m_list m_sorted m_set G_a12 b_a12 mg_a12 k_a12 G_a13 b_a13 mg_a13 k_a13
 have G_a22:=wB (P:=l.prog) (w:=w) (base:=base) F_a22 c MkS m_isinstance RF G_SI bSI
 have TR:AllR l.prog w K mg base _ _ _ _ _:={ c:=c,cF:=cF,M:=MkS,FI:=G_SI,bIK:=bSIK,lg:=⟨_,_,G_a18,b_a18,mg_a18,k_a18⟩,lw:=⟨_,_,G_a12,b_a12,mg_a12,k_a12⟩,sf:=⟨_,_,G_sf,b_sf,M_sf⟩,st:=⟨_,_,G_st,b_st,M_st⟩,sd:=⟨_,_,G_sd,b_sd,M_sd⟩,ln:=⟨_,_,G_ln,b_ln,e_ln,i_ln⟩,eq:=⟨_,_,G_eq,b_eq,e_eq,i_eq⟩,ne:=cY h95,list:=m_list,len:=m_len,max:=m_max }
 have G_a23:=ym F_a23 TR
 have W:AllW l.prog w K mg base _ _ _ _ _ _ _ _:={ R:=TR,bI:=bSI,bI1:=bSI1,bIKK:=bSIKK,MF:=MkF,FFI:=G_FI,bFFI:=bFI,room:=⟨_,_,G_a9,b_a9,mg_a9,k_a9⟩,prime:=⟨_,_,G_a16,b_a16,mg_a16,k_a16⟩,terms:=⟨_,_,G_a19,b_a19,mg_a19,k_a19⟩,take:=⟨_,_,G_a10,b_a10,mg_a10,k_a10⟩,right:=⟨_,_,G_a23,b_a23,mg_a23,k_a23⟩,odd:=⟨_,_,G_a20,b_a20,mg_a20,k_a20⟩,isT:=⟨_,_,G_a21,b_a21,mg_a21,k_a21⟩,numOf:=⟨_,_,G_a22,b_a22,mg_a22,k_a22⟩,sys:=rE h96,m_min:=m_min,m_range:=m_range,m_tuple:=m_tuple,m_repr:=m_repr,m_enum:=m_enumerate }
 exact Bo F_a24 W
theorem walk {l:OpenLaw}{q:Program}{loose:List Str}{XP:(Str->Option Value)->Heap->Prop}{d:DefRec}(hn:l.most=some 63)(hdf:d.params.defaults=[])(hd:d.name="law"):
 WalkO q loose XP xJ l.row.toRowW d [] (fun f vs=>PySem.call f vs):=by
 refine Hd.vx (n:=63) (k:=9) (x:="_law_script") (CX:=fun w=>bz l.prog w) (sp:=fun K=>xi K) (φ:=fun K=>uC K=dueK) (tabs:=fun K=>[]) hn (by decide) hdf ⟨rfl,by decide,by decide,rfl⟩ (fun w h y=>y) ?_ (fun w K mg fa h o X G e=>qo o X G (by rw [← hd]; exact e)) ?_ ?_
 ·intro w s₀ mg mb h K o Gr KX
  exact ⟨fun r hr'=>(nomatch hr'),fun r hr'=>(nomatch hr')⟩
 ·intro K H a ns hl hO hS
  refine ⟨a,ns,rfl,?_,hl,fun _=>rfl⟩
  rcases hS with (hS | ⟨o,hS⟩) | hS
  ·rcases hO.1 a with z | ⟨o,xs,z⟩ | ⟨z,_⟩
   ·rw [z] at hS; cases hS
   ·rw [z] at hS; cases hS
   ·rw [z] at hS; cases hS
  ·exact .inl ⟨o,hS⟩
  ·exact .inr hS
 ·intro w H s e s' z
  obtain ⟨a,cls,a0,B,d,H',_,_,_,_,hE⟩:=z
  exact hE.elim
end K04
open PySem PySem.W PyProof.Rows
set_option maxRecDepth 100000 in
set_option maxHeartbeats 0 in
theorem PySem.Challenge.cw_falsesums_k04_what_is_a_sum_holds : PySem.Challenge.rw_falsesums_k04_what_is_a_sum.Holds := by
 w_on; o_law
 refine PySem.W.holds_open (r:=PySem.Challenge.rw_falsesums_k04_what_is_a_sum.row) (q:=K04.gG) (loose:=["STEP","Field"]) (Xt:=fun s=>xlAt K04.gG K04.lv s&&recOk (PySem.Challenge.rw_falsesums_k04_what_is_a_sum.row.toRowW).records s) (XP:=XL K04.gG K04.lv)
  (Yf:=fun s=>K04.uC (Hd.xD K04.places s.heap)) (Ya:=fun _=>K04.dueK) (YP:=K04.xJ) (N:=7064) ?hl K04.zB K04.rg (fun s e=>xl_of s (Bool.and_eq_true_iff.mp e).1) XL.keeps (by rfl) (by rfl) (by rfl) (fun s e=>recFacts_of (Bool.and_eq_true_iff.mp e).2) (by rfl) (by assumption) (by decide +kernel) ⟨rfl,rfl,rfl,rfl,rfl,by decide +kernel⟩ ?hw ?hc
 case hw=>w_witness2
 case hl=>exact Hd.xt K04.ran1 K04.ran3 K04.ran4
 case hc=>exact K04.walk rfl rfl rfl
