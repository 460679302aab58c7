import PyProof.Rows.All
import Wide.All
import OpenK.AllK
import Wide.FinOn
import Lean
import PyProof.EqAt
import PyProof.EqKinds
import PyProof.TupleCall
import PyProof.NeKinds
import KE.LcSums
import KE.KPairComp
import PyProof.EnumMake
import PyProof.EnumFor
import PyProof.ZipIter
import PyProof.Draws
import KE.KSortTup
import PyProof.Rows.SortWalk
import PyProof.Rows.MinMaxN
import PyProof.Rows.SetFrom
import PyProof.WalkInts
import KE.KSortKey
import PyProof.Rows.TupAdd
import PyProof.ReprRoads
import PyProof.Rows.RegStrFacts
import PyProof.ListRange
import PySem.Challenge.RW_falsesums_k07_worths_and_orders
set_option Elab.async false
set_option linter.all false
set_option maxRecDepth 100000
namespace L2
open PySem
noncomputable def a9 (s:Stmt)(j:Nat):Stmt:=match s with
 | .ClassDef _ _ _ body _ _ _ _ _ _ _=>body.getD j (.Pass ⟨0,0,0,0⟩)
 | _=>.Pass ⟨0,0,0,0⟩
noncomputable def cm (s:Stmt):Arguments:=match s with
 | .FunctionDef _ a _ _ _ _ _ _ _ _=>a
 | _=>{ posonlyargs:=[],args:=[],vararg:=none,kwonlyargs:=[],kw_defaults:=[],kwarg:=none,defaults:=[] }
noncomputable def bv (s:Stmt):List Stmt:=match s with
 | .FunctionDef _ _ b _ _ _ _ _ _ _=>b
 | _=>[]
noncomputable def aj (s:Stmt):Scope:=match s with
 | .FunctionDef _ _ _ _ _ _ sc _ _ _=>sc
 | _=>{ kind:=.function,names:=[],isGenerator:=false,isCoroutine:=false }
end L2
namespace Hd
open PySem PySem.W PyProof.Rows
noncomputable def vq (as:List Addr)(h:Heap):Frag:=as.filterMap fun a=>(h.get? a).map fun o=>(a,o)
theorem nZ (h:Heap):∀ as:List Addr,(vq as h).In h
 | [],a,o,e=>by cases e
 | b :: as,a,o,e=>by
   unfold vq at e
   rw [List.filterMap_cons] at e
   cases q:h.get? b with
   | none =>
     rw [q] at e
     exact nZ h as a o e
   | some u =>
     rw [q] at e
     dsimp only [Option.map_some] at e
     rw [List.lookup_cons] at e
     by_cases z:a=b
     ·subst z
      simp only [beq_self_eq_true] at e
      rw [q]; exact e
     ·have:(a == b)=false:=by simpa using z
      simp only [this] at e
      exact nZ h as a o e
noncomputable abbrev Sig:=Str × Str × Arguments × FuncBody × Scope × Addr × List (Str × Addr) × Value × Addr
noncomputable def xr (fd:FuncData):Sig:=(fd.name,fd.qualname,fd.params,fd.body,fd.scope,fd.globals,fd.closure,fd.defaults,fd.builtins)
noncomputable def j4 (K:Frag)(v:Option (Option Value)):Option FuncData:=match v with
 | some (some (.ref f))=>(match K.lookup f with
   | some ⟨_,_,.func fd,_⟩=>some fd
   | _=>none)
 | _=>none
noncomputable def aX (K:Frag)(v:Option (Option Value)):Option Sig:=(j4 K v).map xr
noncomputable def due (x qual:Str)(st:Stmt):Option Sig:=some (x,qual,L2.cm st,.stmts (L2.bv st),L2.aj st,mainGlobals,[],.none,builtinsNs)
noncomputable def dw (v:Option (Option Value)):Addr:=match v with
 | some (some (.ref a))=>a
 | _=>0
noncomputable def eI (v:Option (Option Value)):Bool:=match v with
 | some (some (.ref _))=>true
 | _=>false
theorem cx {v:Option (Option Value)}(h:eI v=true):v=some (some (.ref (dw v))):=by
 unfold eI at h
 split at h
 ·rfl
 ·cases h
noncomputable def dm (v:Option (Option Value)):Bool:=match v with
 | some none=>true
 | _=>false
theorem bp {v:Option (Option Value)}(h:dm v=true):v=some none:=by
 unfold dm at h
 split at h
 ·rfl
 ·cases h
noncomputable def df (K:Frag)(v:Option (Option Value))(qual:Str):Bool:=keepIn K (.ref (dw v))&&(match j4 K v with
 | some fd=>codeIn K fd.code qual
 | none=>false)
noncomputable abbrev gv (K:Frag)(x:Str):Option (Option Value):=nsIn K mainGlobals x
noncomputable abbrev ga (K:Frag)(x:Str):Addr:=dw (nsIn K mainGlobals x)
noncomputable abbrev fv (K:Frag)(c x:Str):Option (Option Value):=findIn K (.ref (dw (nsIn K mainGlobals c))) x
noncomputable def gE (K:Frag)(v:Option (Option Value)):Option Sig:=(j4 K v).map fun fd=>xr { fd with defaults:=.none }
noncomputable def BH (K:Frag)(v:Option (Option Value)):Value:=match j4 K v with
 | some fd=>fd.defaults
 | none=>.none
noncomputable def nG (K:Frag)(v:Option (Option Value)):Addr:=match BH K v with
 | .ref a=>a
 | _=>0
noncomputable def qm (K:Frag)(v:Option (Option Value)):Bool:=match BH K v with
 | .ref _=>true
 | _=>false
noncomputable def vF (K:Frag)(v:Option (Option Value))(c:Addr):Bool:=match j4 K v with
 | some fd=>(match fd.code with
   | .ref a=>a == c
   | _=>false)
 | none=>false
noncomputable def p7 (K:Frag)(T:Addr)(p:Value->Bool):Bool:=match K.lookup T with
 | some o=>(match o.data with
   | .seq a _=>(match a.toList with
     | [v]=>p v
     | _=>false)
   | _=>false)
 | none=>false
theorem gS {K:Frag}{T:Addr}{p:Value->Bool}(h:p7 K T p=true):∃ o v n,K.lookup T=some o∧o.data = .seq #[v] n∧p v=true:=by
 unfold p7 at h
 split at h
 ·rename_i o ho
  split at h
  ·rename_i a n hd
   split at h
   ·rename_i v hv
    have:a = #[v]:=by rw [← Array.toArray_toList (xs:=a),hv]
    subst this
    exact ⟨o,v,n,ho,hd,h⟩
   ·cases h
  ·cases h
 ·cases h
noncomputable def yS (n:Int)(v:Value):Bool:=match v with
 | .int i _=>i == n
 | _=>false
theorem iT {n:Int}{v:Value}(h:yS n v=true):∃ t,v = .int n t:=by
 unfold yS at h
 split at h
 ·rename_i i t
  have:i=n:=by simpa using h
  exact ⟨t,by rw [this]⟩
 ·cases h
noncomputable def vL (v:Value):Bool:=match v with
 | .none=>true
 | _=>false
theorem nO {v:Value}(h:vL v=true):v = .none:=by
 unfold vL at h
 split at h
 ·rfl
 ·cases h
noncomputable def uK (v:Option (Option Value))(n:Int):Bool:=match v with
 | some (some u)=>yS n u
 | _=>false
theorem jj {v:Option (Option Value)}{n:Int}(h:uK v n=true):∃ t,v=some (some (.int n t)):=by
 unfold uK at h
 split at h
 ·obtain ⟨t,rfl⟩:=iT h
  exact ⟨t,rfl⟩
 ·cases h
noncomputable def rH:List Value->List Int->Bool
 | [],[]=>true
 | v :: vs,n :: ns=>yS n v&&rH vs ns
 | _,_=>false
noncomputable def v8 (K:Frag)(a:Addr)(ns:List Int):Bool:=match K.lookup a with
 | some o=>(match o.cls with
   | .type T=>T == "tuple"
   | _=>false)&&(match o.data with
   | .seq its _=>rH its.toList ns&&decide (its.size≤sizeLine)
   | _=>false)
 | none=>false
noncomputable def vi (K:Frag):Bool:=match K.lookup sysModules with
 | some o=>(match o.cls with
   | .type T=>T == "dict"
   | _=>false)
 | none=>false
noncomputable def iF (v:Option (Option Value))(s:String):Bool:=match v with
 | some (some (.builtin t))=>t == s
 | _=>false
theorem c5 {v:Option (Option Value)}{s:String}(h:iF v s=true):v=some (some (.builtin s)):=by
 unfold iF at h
 split at h
 ·rename_i t
  have:t=s:=by simpa using h
  rw [this]
 ·cases h
noncomputable def iP (v:Option Bool)(b:Bool):Bool:=match v with
 | some c=>c == b
 | none=>false
theorem cu {v:Option Bool}{b:Bool}(h:iP v b=true):v=some b:=by
 unfold iP at h
 split at h
 ·rename_i c
  have:c=b:=by simpa using h
  rw [this]
 ·cases h
noncomputable def xW:List Obj->BT->Nat->Option BT
 | [],t,_=>some t
 | o :: os,t,n=>match ((t.ins n o).get n).isSome with
   | true=>xW os (t.ins n o) (n + 1)
   | false=>none
theorem rC (life:Life):∀ (os:List Obj)(t t':BT)(n:Nat),xW os t n=some t'->(absHeap t' (n + os.length) life).objs=(absHeap t n life).objs++os.toArray
 | [],t,t',n,h=>by
   cases h
   simp
 | o :: os,t,t',n,h=>by
   unfold xW at h
   cases q:((t.ins n o).get n).isSome with
   | false=>rw [q] at h; cases h
   | true =>
     rw [q] at h
     have e:=rC life os _ _ _ h
     rw [absHeap_ins q] at e
     have:n + 1 + os.length=n + (o :: os).length:=by simp only [List.length_cons]; omega
     rw [this] at e
     rw [e]
     show ((absHeap t n life).objs.push o)++os.toArray=_
     rw [← Array.append_singleton,Array.append_assoc]
     simp
noncomputable def Cd (s:Shared):Option SharedT:=(xW s.heap.objs.toList .nil 0).map fun t=>⟨t,s.heap.objs.size,s.heap.life,s.gens,s.drawn,s.toks,s.os⟩
theorem zt {s:Shared}{x:SharedT}(h:Cd s=some x):x.abs=s:=by
 unfold Cd at h
 obtain ⟨t,e,rfl⟩:=Option.map_eq_some_iff.mp h
 have g:=rC s.heap.life _ _ _ _ e
 obtain ⟨⟨objs,life⟩,gens,drawn,toks,os⟩:=s
 have z:absHeap t objs.size life=⟨objs,life⟩:=by
  have a:(absHeap t objs.size life).objs=objs:=by
   have l:0 + objs.toList.length=objs.size:=by simp
   rw [l] at g
   rw [g]
   simp [absHeap,BT.list]
  exact congrArg (Heap.mk · life) a
 show Shared.mk _ _ _ _ _=_
 rw [z]
noncomputable def jp (tb:String->Option Builtin)(p:Program)(w:World)(n₀:Nat)(ann:Option Value):Nat->SharedT->Thread->Option SharedT
 | 0,_,_=>none
 | n + 1,s,t=>match through t with
   | true=>some s
   | false=>match stepOk n₀ ann t with
     | false=>none
     | true=>match stepT (denote tb) p w s t with
       | some (s',t')=>jp tb p w n₀ ann n s' t'
       | none=>none
section
variable {tb:String->Option Builtin}{p:Program}{w:World}{n₀:Nat}{ann:Option Value}
theorem j3:∀ {n:Nat}{s s':SharedT}{t:Thread},jp tb p w n₀ ann n s t=some s'->topRun tb p w n₀ ann n s.abs t=some s'.abs
 | 0,_,_,_,h=>by cases h
 | n + 1,s,s',t,h=>by
   unfold jp at h
   unfold topRun
   cases he:through t with
   | true=>rw [he] at h; cases h; rfl
   | false =>
     rw [he] at h
     cases hk:stepOk n₀ ann t with
     | false=>rw [hk] at h; cases h
     | true =>
       rw [hk] at h
       cases hs:stepT (denote tb) p w s t with
       | none=>rw [hs] at h; cases h
       | some r=>obtain ⟨s₂,t₂⟩:=r; rw [hs] at h; rw [stepT_spec hs]; exact j3 h
end
noncomputable def jG (tb:String->Option Builtin)(p:Program)(w:World)(N:Nat)(s₀:Shared):Option SharedT :=
 match s₀.heap.isNs mainGlobals&&s₀.gens.size == 0 with
 | true=>(Cd s₀).bind fun x=>(jp tb p w s₀.heap.objs.size (s₀.heap.nsMap mainGlobals "__annotations__") N x (topStub p)).bind fun s₁=>match staticsOk (importedModules p.main.body) s₀.heap s₁.abs.heap&&namesBound p s₁.abs.heap&&gensDone s₁.abs&&laidKept s₀.heap s₁.abs.heap with
  | true=>some s₁
  | false=>none
 | false=>none
theorem oV {tb:String->Option Builtin}{p:Program}{w:World}{N:Nat}{s:Shared}{y:SharedT}(h:jG tb p w N s=some y):topFrom tb p w N s=some y.abs:=by
 unfold jG at h
 unfold topFrom
 cases q:(s.heap.isNs mainGlobals&&s.gens.size == 0) with
 | false=>rw [q] at h; cases h
 | true =>
   rw [q] at h
   obtain ⟨x,ex,h⟩:=Option.bind_eq_some_iff.mp h
   obtain ⟨z,ez,h⟩:=Option.bind_eq_some_iff.mp h
   have e:=j3 ez
   rw [zt ex] at e
   dsimp only
   rw [e]
   show (match (staticsOk (importedModules p.main.body) s.heap z.abs.heap&&namesBound p z.abs.heap&&gensDone z.abs&&laidKept s.heap z.abs.heap) with | true=>some z.abs | false=>none)=_
   split at h
   ·cases h
    rename_i q2
    simp only [q2]
   ·cases h
noncomputable def bz (tb:String->Option Builtin)(p:Program)(w:World)(N:Nat):Option SharedT:=(fencedOpening tb p w N).bind (jG tb p w N)
theorem nr {tb:String->Option Builtin}{p:Program}{w:World}{N:Nat}{y:SharedT}(h:bz tb p w N=some y):openEnds tb p w N=some y.abs:=by
 unfold bz at h
 unfold openEnds
 obtain ⟨s,e,h⟩:=Option.bind_eq_some_iff.mp h
 rw [e]
 exact oV h
theorem v7 {p q:Program}{loose:List Str}{Xt:Shared->Bool}{α:Type}{Yf:Shared->α}{Ya:World->α}{N:Nat}
 (h1:∀ w,(bz treeTable p w N).map (fun s=>openSeen q loose (importedModules p.main.body) Xt true s.abs)=some (openGood q loose))
 (h2:∀ w,(bz treeTable p w N).map (fun s=>Yf s.abs)=some (Ya w)):LeftO p q loose Xt Yf Ya N:=fun w=>by
 obtain ⟨y,e,z⟩:=Option.map_eq_some_iff.mp (h1 w)
 have z2:=h2 w
 rw [e] at z2
 rw [nr e]
 show some (_,_)=_
 have z3:Yf y.abs=Ya w:=Option.some.inj z2
 rw [z,z3]
section
variable {p q:Program}{loose mods:List Str}{Xt:Shared->Bool}{α:Type}{Yf:Shared->α}{Ya:World->α}{N:Nat}
noncomputable abbrev oz (q:Program)(s:Shared):=(seen ((recsOf q).map (·.name)) (ownsOf q) [] { s with gens:=#[] },s.heap.bltView)
noncomputable abbrev ot (q:Program)(loose mods:List Str)(Xt:Shared->Bool)(s:Shared):Bool :=
 s.heap.keysOk (looseW q loose) ((recsOf q).map (·.name)) ((litsOf q).map (·.1)) ((clssOf q (looseW q loose)).map (·.name))&&s.heap.accountedOkI mods&&s.heap.isNs mainGlobals&&s.heap.isNs builtinsNs&&tablesOk q s.heap&&Xt s&&(if true then s.gens.size == 0 else !leftWithCleanup s.gens)
noncomputable abbrev oZ (q:Program)(loose:List Str)(s:Shared):=(tabsOk q s,pinSeenD q (drecsOf q) s,plainSeenE q (looseW q loose) s,plainSeenD q loose s,wideSeen q s,clsSeenW q loose s)
theorem xf
 (h1:∀ w,(bz treeTable p w N).map (fun s=>oz q s.abs)=some (expectedOf q,bltViewBooted))
 (h2:∀ w,(bz treeTable p w N).map (fun s=>ot q loose (importedModules p.main.body) Xt s.abs)=some true)
 (h3:∀ w,(bz treeTable p w N).map (fun s=>oZ q loose s.abs)=some (true,pinGoodD (drecsOf q),plainGoodE q (looseW q loose),plainGoodD q loose,wideGood q,clsGoodW q loose))
 (h4:∀ w,(bz treeTable p w N).map (fun s=>Yf s.abs)=some (Ya w)):LeftO p q loose Xt Yf Ya N:=by
 refine v7 (fun w=>?_) h4
 obtain ⟨y,e,z1⟩:=Option.map_eq_some_iff.mp (h1 w)
 have z2:=h2 w
 have z3:=h3 w
 rw [e] at z2 z3 ⊢
 have z2:ot q loose (importedModules p.main.body) Xt y.abs=true:=Option.some.inj z2
 have z3:oZ q loose y.abs=_:=Option.some.inj z3
 show some (openSeen q loose (importedModules p.main.body) Xt true y.abs)=_
 have e1:openSeen q loose (importedModules p.main.body) Xt true y.abs=((oz q y.abs).1,(oz q y.abs).2,ot q loose (importedModules p.main.body) Xt y.abs,oZ q loose y.abs):=rfl
 rw [e1,z1,z2,z3]
 rfl
theorem we
 (h1:∀ w,(bz treeTable p w N).map (fun s=>(oz q s.abs,ot q loose (importedModules p.main.body) Xt s.abs))=some ((expectedOf q,bltViewBooted),true))
 (h3:∀ w,(bz treeTable p w N).map (fun s=>oZ q loose s.abs)=some (true,pinGoodD (drecsOf q),plainGoodE q (looseW q loose),plainGoodD q loose,wideGood q,clsGoodW q loose))
 (h4:∀ w,(bz treeTable p w N).map (fun s=>Yf s.abs)=some (Ya w)):LeftO p q loose Xt Yf Ya N:=by
 refine xf (fun w=>?_) (fun w=>?_) h3 h4
 ·obtain ⟨y,e,z⟩:=Option.map_eq_some_iff.mp (h1 w)
  rw [e]
  exact congrArg some (Prod.mk.inj z).1
 ·obtain ⟨y,e,z⟩:=Option.map_eq_some_iff.mp (h1 w)
  rw [e]
  exact congrArg some (Prod.mk.inj z).2
end
end Hd
namespace K07
open PySem L2 PySem.W
open Hd (gv ga fv dw eI cx dm bp iF c5 iP cu df aX gE due qm nG p7 gS vL nO yS iT uK jj v8 vi vF)
noncomputable def aY (i:Nat):Stmt:=PySem.Challenge.pw_falsesums_k07_worths_and_orders.main.body.getD i (.Pass ⟨0,0,0,0⟩)
noncomputable def primes:List Int:=[2,3,5,7,11,13,17,19,23,29,31,37,41,43,47,53,59,61,67,71,73,79,83,89,97]
noncomputable abbrev xt:List Value:=[.type "ValueError",.type "Exception",.type "BaseException",.type "object"]
noncomputable abbrev mZ:String:="ValueError.__new__"
noncomputable def gs (K:Frag):Addr × Addr:=(tabIn K "_law_asked").getD (0,0)
noncomputable def CA (K:Frag):Bool :=
 (dm (gv K "isinstance") &&
 (dm (gv K "int") &&
 (dm (gv K "bool") &&
 (dm (gv K "ValueError") &&
 (dm (gv K "abs") &&
 (dm (gv K "len") &&
 (dm (gv K "tuple") &&
 (dm (gv K "all") &&
 (dm (gv K "zip") &&
 (dm (gv K "list") &&
 (dm (gv K "enumerate") &&
 (dm (gv K "sorted") &&
 (dm (gv K "max") &&
 (dm (gv K "min") &&
 (dm (gv K "set") &&
 (dm (gv K "range")))))))))))))))))
noncomputable def Cr (K:Frag):Bool :=
 (dm (gv K "repr") &&
 (eI (gv K "Sum") &&
 (eI (gv K "Field") &&
 (eI (gv K "FalseError") &&
 (eI (gv K "NoFilling") &&
 (eI (gv K "NoOrder") &&
 (eI (gv K "NoSums") &&
 (eI (gv K "NoField") &&
 (eI (gv K "NoNumber") &&
 (eI (gv K "PRIMES") &&
 (uK (gv K "FRACTIONS") 0 &&
 (uK (gv K "MOST_PLACES") 60 &&
 (df K (gv K "is_whole") "is_whole" &&
 (df K (gv K "is_place") "is_place" &&
 (df K (gv K "is_product") "is_product" &&
 (df K (gv K "is_order") "is_order"))))))))))))))))
noncomputable def Ct (K:Frag):Bool :=
 (df K (gv K "is_row_of_bits") "is_row_of_bits" &&
 (df K (gv K "is_term") "is_term" &&
 (df K (gv K "checked_terms") "checked_terms" &&
 (df K (gv K "place_of_term") "place_of_term" &&
 (df K (gv K "gathered") "gathered" &&
 (df K (gv K "built") "built" &&
 (df K (gv K "common_divisor") "common_divisor" &&
 (df K (gv K "lowest") "lowest" &&
 (df K (gv K "inverse") "inverse" &&
 (df K (gv K "_law_room") "_law_room" &&
 (df K (gv K "_law_take") "_law_take" &&
 (df K (gv K "_law_lowest") "_law_lowest" &&
 (df K (gv K "_law_whole") "_law_whole" &&
 (df K (gv K "_law_make") "_law_make" &&
 (df K (gv K "_law_plus") "_law_plus" &&
 (df K (gv K "_law_prime") "_law_prime"))))))))))))))))
noncomputable def Cg (K:Frag):Bool :=
 (df K (gv K "_law_number") "_law_number" &&
 (df K (gv K "_law_product") "_law_product" &&
 (df K (gv K "_law_terms") "_law_terms" &&
 (df K (gv K "_law_gather") "_law_gather" &&
 (df K (gv K "_law_worth") "_law_worth" &&
 (df K (gv K "_law_filling") "_law_filling" &&
 (df K (gv K "_law_kind") "_law_kind" &&
 (df K (gv K "_law_reach") "_law_reach" &&
 (df K (gv K "_law_odd") "_law_odd" &&
 (df K (gv K "_law_like") "_law_like" &&
 (df K (gv K "_law_is_filling") "_law_is_filling" &&
 (df K (gv K "_law_is_order") "_law_is_order" &&
 (df K (gv K "law") "law" &&
 (df K (fv K "Sum" "field") "Sum.field" &&
 (isFn K (.ref (dw (fv K "Sum" "field"))) &&
 (df K (fv K "Sum" "terms") "Sum.terms"))))))))))))))))
noncomputable def Cp (K:Frag):Bool :=
 (isFn K (.ref (dw (fv K "Sum" "terms"))) &&
 (df K (fv K "Sum" "reach") "Sum.reach" &&
 (isFn K (.ref (dw (fv K "Sum" "reach"))) &&
 (df K (fv K "Sum" "worth") "Sum.worth" &&
 (isFn K (.ref (dw (fv K "Sum" "worth"))) &&
 (df K (fv K "Sum" "renamed") "Sum.renamed" &&
 (isFn K (.ref (dw (fv K "Sum" "renamed"))) &&
 (df K (fv K "Field" "__eq__") "Field.__eq__" &&
 (isFn K (.ref (dw (fv K "Field" "__eq__"))) &&
 (df K (fv K "Field" "quotient") "Field.quotient" &&
 (isFn K (.ref (dw (fv K "Field" "quotient"))) &&
 (df K (fv K "Field" "plus") "Field.plus" &&
 (isFn K (.ref (dw (fv K "Field" "plus"))) &&
 (df K (fv K "Field" "settled") "Field.settled" &&
 (isFn K (.ref (dw (fv K "Field" "settled"))) &&
 (df K (fv K "Field" "is_number") "Field.is_number"))))))))))))))))
noncomputable def Cf (K:Frag):Bool :=
 (isFn K (.ref (dw (fv K "Field" "is_number"))) &&
 (df K (fv K "Sum" "__init__") "Sum.__init__" &&
 (isFn K (.ref (dw (fv K "Sum" "__init__"))) &&
 (qm K (fv K "Sum" "__init__") &&
 (p7 K (nG K (fv K "Sum" "__init__")) (vL) &&
 (df K (fv K "Field" "__init__") "Field.__init__" &&
 (isFn K (.ref (dw (fv K "Field" "__init__"))) &&
 (qm K (fv K "Field" "__init__") &&
 (p7 K (nG K (fv K "Field" "__init__")) (yS 0) &&
 (df K (fv K "Field" "made") "Field.made" &&
 (isFn K (.ref (dw (fv K "Field" "made"))) &&
 (qm K (fv K "Field" "made") &&
 (p7 K (nG K (fv K "Field" "made")) (yS 1) &&
 (plainGet K (ga K "Field") Str.empty &&
 (hasDictIn K (ga K "Field") &&
 (plainOver K (ga K "Field")))))))))))))))))
noncomputable def BQ (K:Frag):Bool :=
 (iF (fv K "Field" "__setattr__") "object.__setattr__" &&
 (dm (fv K "Field" "its_prime") &&
 (((clsIn K (ga K "Field")).isSome&&typeIn K (.ref (ga K "Field")) == some (.type "type")) &&
 (iF (fv K "Field" "__class__") "object.__class__" &&
 (iF (specialIn K (.builtin "object.__class__") "__get__") "getset_descriptor.__get__" &&
 (iP (takesIn K (.builtin "object.__class__")) true &&
 (iP (mroIn K (ga K "Field") (.type "object")) true &&
 (plainGet K (ga K "Sum") Str.empty &&
 (hasDictIn K (ga K "Sum") &&
 (plainOver K (ga K "Sum") &&
 (iF (fv K "Sum" "__setattr__") "object.__setattr__" &&
 (dm (fv K "Sum" "its_field") &&
 (dm (fv K "Sum" "its_terms") &&
 (v8 K (ga K "PRIMES") primes &&
 ((clsIn K (ga K "NoFilling")).isSome &&
 (iF (fv K "NoFilling" "__getattribute__") "BaseException.__getattribute__"))))))))))))))))
noncomputable def BU (K:Frag):Bool :=
 (dm (fv K "NoFilling" "__getattr__") &&
 (iF (fv K "NoFilling" "__class__") "object.__class__" &&
 (iP (mroIn K (ga K "NoFilling") (.type "object")) true &&
 (iP (mroIn K (ga K "NoFilling") (.type "BaseException")) true &&
 ((clsIn K (ga K "NoOrder")).isSome &&
 (iF (fv K "NoOrder" "__getattribute__") "BaseException.__getattribute__" &&
 (dm (fv K "NoOrder" "__getattr__") &&
 (iF (fv K "NoOrder" "__class__") "object.__class__" &&
 (iP (mroIn K (ga K "NoOrder") (.type "object")) true &&
 (iP (mroIn K (ga K "NoOrder") (.type "BaseException")) true &&
 (iP (exmOne K (.ref (ga K "NoFilling")) (.ref (ga K "FalseError"))) true &&
 (iP (exmOne K (.ref (ga K "NoOrder")) (.ref (ga K "FalseError"))) true &&
 (iP (kitOne K (.ref (ga K "NoFilling")) (.ref (ga K "NoFilling"))) true &&
 (iP (kitOne K (.ref (ga K "NoFilling")) (.ref (ga K "NoOrder"))) false &&
 (iP (kitOne K (.ref (ga K "NoFilling")) (.ref (ga K "NoSums"))) false &&
 (iP (kitOne K (.ref (ga K "NoFilling")) (.type "ValueError")) true))))))))))))))))
noncomputable def Ci (K:Frag):Bool :=
 (iP (kitOne K (.ref (ga K "NoOrder")) (.ref (ga K "NoFilling"))) false &&
 (iP (kitOne K (.ref (ga K "NoOrder")) (.ref (ga K "NoOrder"))) true &&
 (iP (kitOne K (.ref (ga K "NoOrder")) (.ref (ga K "NoSums"))) false &&
 (iP (kitOne K (.ref (ga K "NoOrder")) (.type "ValueError")) true &&
 (excIn K (ga K "NoFilling") xt mZ &&
 (excIn K (ga K "NoOrder") xt mZ &&
 (excIn K (ga K "NoField") xt mZ &&
 (excIn K (ga K "NoNumber") xt mZ &&
 (iF (fv K "Field" "__ne__") "object.__ne__" &&
 (vi K &&
 (df K (gv K "_law_asked") "_law_asked" &&
 (vF K (gv K "_law_asked") (gs K).1 &&
 ((tabIn K "_law_asked").isSome &&
 ((K.lookup (gs K).2).isNone &&
 (makesIn K (ga K "Sum") &&
 (keepIn K (.ref (ga K "Sum"))))))))))))))))))
noncomputable def B6 (K:Frag):Bool :=
 (makesIn K (ga K "Field") &&
 (keepIn K (.ref (ga K "Field"))))
noncomputable def j6 (K:Frag):Bool:=CA K&&(Cr K&&(Ct K&&(Cg K&&(Cp K&&(Cf K&&(BQ K&&(BU K&&(Ci K&&(B6 K)))))))))
noncomputable def qQ (K:Frag):Bool × List (Option Hd.Sig):=(j6 K,[aX K (gv K "is_whole"),aX K (gv K "is_place"),aX K (gv K "is_product"),aX K (gv K "is_order"),aX K (gv K "is_row_of_bits"),aX K (gv K "is_term"),aX K (gv K "checked_terms"),aX K (gv K "place_of_term"),aX K (gv K "gathered"),aX K (gv K "built"),aX K (gv K "common_divisor"),aX K (gv K "lowest"),aX K (gv K "inverse"),aX K (gv K "_law_room"),aX K (gv K "_law_take"),aX K (gv K "_law_lowest"),aX K (gv K "_law_whole"),aX K (gv K "_law_make"),aX K (gv K "_law_plus"),aX K (gv K "_law_prime"),aX K (gv K "_law_number"),aX K (gv K "_law_product"),aX K (gv K "_law_terms"),aX K (gv K "_law_gather"),aX K (gv K "_law_worth"),aX K (gv K "_law_filling"),aX K (gv K "_law_kind"),aX K (gv K "_law_reach"),aX K (gv K "_law_odd"),aX K (gv K "_law_like"),aX K (gv K "_law_is_filling"),aX K (gv K "_law_is_order"),aX K (gv K "law"),aX K (fv K "Sum" "field"),aX K (fv K "Sum" "terms"),aX K (fv K "Sum" "reach"),aX K (fv K "Sum" "worth"),aX K (fv K "Sum" "renamed"),aX K (fv K "Field" "__eq__"),aX K (fv K "Field" "quotient"),aX K (fv K "Field" "plus"),aX K (fv K "Field" "settled"),aX K (fv K "Field" "is_number"),gE K (fv K "Sum" "__init__"),gE K (fv K "Field" "__init__"),gE K (fv K "Field" "made"),aX K (gv K "_law_asked")])
noncomputable def dueK:Bool × List (Option Hd.Sig):=(true,[due "is_whole" "is_whole" ((aY 12)),due "is_place" "is_place" (aY 13),due "is_product" "is_product" (aY 14),due "is_order" "is_order" (aY 15),due "is_row_of_bits" "is_row_of_bits" (aY 16),due "is_term" "is_term" (aY 25),due "checked_terms" "checked_terms" (aY 26),due "place_of_term" "place_of_term" (aY 27),due "gathered" "gathered" (aY 28),due "built" "built" (aY 31),due "common_divisor" "common_divisor" ((aY 35)),due "lowest" "lowest" ((aY 36)),due "inverse" "inverse" ((aY 37)),due "_law_room" "_law_room" ((aY 40)),due "_law_take" "_law_take" ((aY 41)),due "_law_lowest" "_law_lowest" ((aY 42)),due "_law_whole" "_law_whole" ((aY 43)),due "_law_make" "_law_make" ((aY 44)),due "_law_plus" "_law_plus" ((aY 45)),due "_law_prime" "_law_prime" ((aY 46)),due "_law_number" "_law_number" ((aY 47)),due "_law_product" "_law_product" (aY 48),due "_law_terms" "_law_terms" (aY 49),due "_law_gather" "_law_gather" (aY 50),due "_law_worth" "_law_worth" (aY 51),due "_law_filling" "_law_filling" (aY 52),due "_law_kind" "_law_kind" (aY 53),due "_law_reach" "_law_reach" (aY 54),due "_law_odd" "_law_odd" (aY 55),due "_law_like" "_law_like" (aY 56),due "_law_is_filling" "_law_is_filling" (aY 57),due "_law_is_order" "_law_is_order" (aY 58),due "law" "law" (aY 60),due "field" "Sum.field" (a9 (aY 30) 5),due "terms" "Sum.terms" (a9 (aY 30) 6),due "reach" "Sum.reach" (a9 (aY 30) 8),due "worth" "Sum.worth" (a9 (aY 30) 13),due "renamed" "Sum.renamed" (a9 (aY 30) 14),due "__eq__" "Field.__eq__" (a9 (aY 38) 1),due "quotient" "Field.quotient" (a9 (aY 38) 5),due "plus" "Field.plus" (a9 (aY 38) 6),due "settled" "Field.settled" (a9 (aY 38) 10),due "is_number" "Field.is_number" (a9 (aY 38) 11),due "__init__" "Sum.__init__" (a9 (aY 30) 0),due "__init__" "Field.__init__" (a9 (aY 38) 0),due "made" "Field.made" (a9 (aY 38) 4),due "_law_asked" "_law_asked" (aY 59)])
noncomputable def qM:List Addr:=[1,3,30,31,43,44,55,56,79,80,91,92,104,131,132,138,139,143,144,148,149,153,154,186,187,193,194,200,201,205,206,219,225,226,260,261,267,268,279,280,312,313,317,318,327,328,338,339,340,346,347,353,354,360,361,369,375,376,382,383,398,404,405,411,412,418,419,446,447,453,454,456,457,467,468,474,475,481,482,488,489,493,494,500,501,507,508,514,515,519,520,526,527,531,532,536,537,541,542,548,549,553,554,560,561,567,568,572,573,577,578,582,583,587,588]
noncomputable def ie:Program:={ PySem.Challenge.pw_falsesums_k07_worths_and_orders with main:={ PySem.Challenge.pw_falsesums_k07_worths_and_orders.main with body:=[aY 0,aY 2,aY 3,aY 4,aY 5,aY 6,aY 7,aY 8,aY 9,aY 11,aY 12,aY 13,aY 14,aY 15,aY 16,aY 18,aY 19,aY 20,aY 21,aY 22,aY 23,aY 25,aY 26,aY 27,aY 28,aY 29,aY 30,aY 31,aY 33,aY 34,aY 35,aY 36,aY 37,aY 38,aY 40,aY 41,aY 42,aY 43,aY 44,aY 45,aY 46,aY 47,aY 48,aY 49,aY 50,aY 51,aY 52,aY 53,aY 54,aY 55,aY 56,aY 57,aY 58,aY 59,aY 60] } }
noncomputable def lv:List (PySem.Str × WData):=[("STEP",.int 10000000000000000000000000000000000000000000000000000000000000000)]
end K07
section
open PySem PySem.W PyProof.Rows
set_option maxRecDepth 100000 in
set_option maxHeartbeats 0 in
theorem K07.ran1:∀ w,(Hd.bz treeTable PySem.Challenge.rw_falsesums_k07_worths_and_orders.row.prog w 8706).map (fun s=>(Hd.oz K07.ie s.abs,Hd.ot K07.ie ["STEP","Field"] (importedModules PySem.Challenge.rw_falsesums_k07_worths_and_orders.row.prog.main.body) (fun s=>xlAt K07.ie K07.lv s&&recOk (PySem.Challenge.rw_falsesums_k07_worths_and_orders.row.toRowW).records s) s.abs))=some ((PyProof.Rows.expectedOf K07.ie,bltViewBooted),true):=by
 intro w; kernel_rfl
set_option maxRecDepth 100000 in
set_option maxHeartbeats 0 in
theorem K07.ran3:∀ w,(Hd.bz treeTable PySem.Challenge.rw_falsesums_k07_worths_and_orders.row.prog w 8706).map (fun s=>Hd.oZ K07.ie ["STEP","Field"] s.abs)=some (true,pinGoodD (drecsOf K07.ie),plainGoodE K07.ie (looseW K07.ie ["STEP","Field"]),plainGoodD K07.ie ["STEP","Field"],wideGood K07.ie,clsGoodW K07.ie ["STEP","Field"]):=by
 intro w; kernel_rfl
set_option maxRecDepth 100000 in
set_option maxHeartbeats 0 in
theorem K07.ran4:∀ w,(Hd.bz treeTable PySem.Challenge.rw_falsesums_k07_worths_and_orders.row.prog w 8706).map (fun s=>K07.qQ (Hd.vq K07.qM s.abs.heap))=some K07.dueK:=by
 intro w; kernel_rfl
end
namespace L2
open PySem PySem.Spec PyProof.Rows
noncomputable abbrev Key:=Sum Int Str
noncomputable def lH:Key->Value->Bool
 | .inl k,v=>Value.isInt k v
 | .inr x,v=>Value.isStrOf x v
noncomputable def CC (w:World):Key->Int
 | .inl k=>hashInt k
 | .inr x=>hashStr w x
theorem b9:∀ {k:Key}{v:Value},lH k v=true->(∃ i t,k=Sum.inl i∧v=Value.int i t)∨(∃ x t,k=Sum.inr x∧v=Value.str x t)
 | .inl i,v,h=>by
   obtain ⟨t,e⟩:=Value.isInt_shape (k:=i) (v:=v) h
   exact .inl ⟨i,t,rfl,e⟩
 | .inr x,v,h=>by
   obtain ⟨t,e⟩:=Value.isStrOf_shape (x:=x) (v:=v) h
   exact .inr ⟨x,t,rfl,e⟩
theorem uG (i:Int)(t:Tok):lH (.inl i) (.int i t)=true:=by simp [lH,Value.isInt]
theorem uD (x:Str)(t:Tok):lH (.inr x) (.str x t)=true:=by simp [lH,Value.isStrOf]
theorem Af (a b:Int):decide ((Sum.inl a:Key)=Sum.inl b)=(a == b):=by
 by_cases e:a=b
 ·subst e; simp
 ·have h:¬ (Sum.inl a:Key)=Sum.inl b:=fun q=>e (Sum.inl.inj q)
  rw [decide_eq_false h]
  exact (beq_eq_false_iff_ne.mpr e).symm
theorem AA (a b:Str):decide ((Sum.inr a:Key)=Sum.inr b)=decide (a=b):=by
 by_cases e:a=b
 ·subst e; simp
 ·have h:¬ (Sum.inr a:Key)=Sum.inr b:=fun q=>e (Sum.inr.inj q)
  rw [decide_eq_false h,decide_eq_false e]
theorem Ad (a:Int)(b:Str):decide ((Sum.inl a:Key)=Sum.inr b)=false:=decide_eq_false (fun q=>nomatch q)
theorem An (a:Str)(b:Int):decide ((Sum.inr a:Key)=Sum.inl b)=false:=decide_eq_false (fun q=>nomatch q)
noncomputable def bZ (prog:Program)(w:World):PySem.KeyKind prog w Key where
 is:=lH
 hash:=CC w
 inj:=fun v a b ha hb=>by
  rcases b9 ha with ⟨i,t,rfl,rfl⟩ | ⟨x,t,rfl,rfl⟩
  ·rcases b9 hb with ⟨j,u,rfl,e⟩ | ⟨y,u,rfl,e⟩
   ·injection e with e1 _; rw [e1]
   ·exact nomatch e
  ·rcases b9 hb with ⟨j,u,rfl,e⟩ | ⟨y,u,rfl,e⟩
   ·exact nomatch e
   ·injection e with e1 _; rw [e1]
 byValue:=fun k v h=>by
  rcases b9 h with ⟨i,t,rfl,rfl⟩ | ⟨x,t,rfl,rfl⟩ <;> rfl
 pyHash:=fun hv h=>by
  rcases b9 hv with ⟨i,t,rfl,rfl⟩ | ⟨x,t,rfl,rfl⟩
  ·exact wpAny_pyHash_int h
  ·exact wpAny_pyHash_str h
 eqBool:=fun hu hv h=>by
  rcases b9 hu with ⟨i,t,rfl,rfl⟩ | ⟨x,t,rfl,rfl⟩
  ·rcases b9 hv with ⟨j,u,rfl,rfl⟩ | ⟨y,u,rfl,rfl⟩
   ·rw [Af] at h; exact wpAny_eqBool_int h
   ·rw [Ad] at h; exact SeqAt.EqAt.int_str i t y u _ _ _ _ h
  ·rcases b9 hv with ⟨j,u,rfl,rfl⟩ | ⟨y,u,rfl,rfl⟩
   ·rw [An] at h; exact SeqAt.EqAt.str_int x t j u _ _ _ _ h
   ·rw [AA] at h; exact wpAny_eqBool_str h
 «strs»:=fun k x t v h=>by
  rcases b9 h with ⟨i,u,rfl,e⟩ | ⟨y,u,rfl,e⟩
  ·exact nomatch e
  ·injection e with e1 _
   subst e1
   cases v <;> rfl
theorem pC (prog:Program)(w:World)(i:Int)(t:Tok):(bZ prog w).is (.inl i) (.int i t)=true:=uG i t
theorem n9 (prog:Program)(w:World)(x:Str)(t:Tok):(bZ prog w).is (.inr x) (.str x t)=true:=uD x t
inductive V where
 | non | bl (b:Bool) | int (i:Int) | str (x:Str) | byt (b:Array UInt8) | flt (b:UInt64) | ref (a:Addr) | ty (n:String)
 deriving DecidableEq
noncomputable def aB:V->Value->Prop
 | .non,u=>u=Value.none
 | .bl b,u=>u=Value.bool b
 | .int i,u=>∃ t,u=Value.int i t
 | .str x,u=>∃ t,u=Value.str x t
 | .byt b,u=>∃ t,u=Value.bytes b t
 | .flt b,u=>∃ t,u=Value.float b t
 | .ref a,u=>u=Value.ref a
 | .ty n,u=>u=Value.type n
noncomputable abbrev aJ:List V->List Value->Prop:=Paired aB
theorem aJ.length {xs:List V}{us:List Value}(r:aJ xs us):xs.length=us.length:=Paired.length r
theorem aJ.get:∀ {xs:List V}{us:List Value}{i:Nat}{x:V},aJ xs us->xs[i]?=some x->∃ u,us[i]?=some u∧aB x u
 | _,_,_,_,.nil,e=>by simp at e
 | _,_,0,_,.cons r _,e=>by simp at e; subst e; exact ⟨_,rfl,r⟩
 | _,_,i + 1,x,.cons _ t,e=>by
   obtain ⟨u,h1,h2⟩:=aJ.get (i:=i) (x:=x) t (by simpa using e)
   exact ⟨u,by simpa using h1,h2⟩
theorem aJ.set {x:V}{u:Value}(r:aB x u):∀ {xs:List V}{us:List Value}(i:Nat),aJ xs us->aJ (xs.set i x) (us.set i u)
 | _,_,_,.nil=>.nil
 | _,_,0,.cons _ t=>.cons r t
 | _,_,i + 1,.cons q t=>.cons q (aJ.set r i t)
theorem aJ.append:∀ {xs ys:List V}{us ws:List Value},aJ xs us->aJ ys ws->aJ (xs++ys) (us++ws)
 | _,_,_,_,.nil,s=>s
 | _,_,_,_,.cons r t,s=>.cons r (aJ.append t s)
theorem aJ.take:∀ {xs:List V}{us:List Value}(n:Nat),aJ xs us->aJ (xs.take n) (us.take n)
 | _,_,0,_=>.nil
 | _,_,_ + 1,.nil=>.nil
 | _,_,n + 1,.cons r t=>.cons r (aJ.take n t)
theorem aJ.drop:∀ {xs:List V}{us:List Value}(n:Nat),aJ xs us->aJ (xs.drop n) (us.drop n)
 | _,_,0,r=>r
 | _,_,_ + 1,.nil=>.nil
 | _,_,n + 1,.cons _ t=>aJ.drop n t
noncomputable def fe:Option V->Option Value->Prop
 | some v,some u=>aB v u
 | none,none=>True
 | _,_=>False
noncomputable def KV {κ:Type}:List (κ × V)->List (κ × Value)->Prop:=Paired fun (p:κ × V)(q:κ × Value)=>p.1=q.1∧aB p.2 q.2
noncomputable def kV:Key->V
 | .inl i=>.int i
 | .inr x=>.str x
inductive HO where
 /-- a list -/
 | lst (xs:List V)
 /-- a tuple (never changes) -/
 | tup (xs:List V)
 /-- a dict whose keys are ints and texts; one whose keys are tuples of ints and texts (the empty one is both) -/
 | dK (kvs:List (Key × V)) | dT (kvs:List (List Key × V))
 /-- a set of ints: its members,its size -/
 | set (S:Int->Bool)(n:Nat)
 /-- an instance of the class at C,its dict at dx,its attributes -/
 | ins (C dx:Addr)(fs:List (Str × V))
 /-- the dict of the instance at x -/
 | own (x:Addr)
 /-- the dict of an exception -/
 | xd (fs:List (Str × V))
 /-- a bound method,f of x -/
 | met (f x:Addr)
 /-- a range object lo,lo + 1,.. below hi -/
 | rng (lo hi:Int)
 /-- a thing that is known to the object (the script; a dict while a oM walks it): read,never written while it is so -/
 | frz (o:Obj)(u:HO)
 /-- a code object's table -/
 | tbl (ps:Array Value)
 /-- any other thing,by what is true of its one object (a def of one's own: SetO a S n:=HO.ext fun h=>..) -/
 | ext (φ:Heap->Prop)
noncomputable abbrev Hp:=Addr->Option HO
noncomputable def upd (H:Hp)(a:Addr)(o:HO):Hp:=fun b=>if b=a then some o else H b
theorem ac {H:Hp}{a:Addr}{o:HO}:upd H a o a=some o:=by unfold upd; rw [if_pos rfl]
theorem al {H:Hp}{a b:Addr}{o:HO}(h:b≠a):upd H a o b=H b:=by unfold upd; rw [if_neg h]
theorem rP {H:Hp}{a:Addr}{o u:HO}:upd (upd H a o) a u=upd H a u:=by
 funext b; unfold upd; split <;> rfl
theorem oO {H:Hp}{a b:Addr}{o u:HO}(h:H a=some o)(h':H b=some u)(d:o≠u):a≠b:=by
 intro e; subst e; rw [h] at h'; exact d (Option.some.inj h')
theorem ap {H:Hp}{a b:Addr}{o:HO}(h:H a=some o)(h':H b=none):a≠b:=by
 intro e; subst e; rw [h] at h'; cases h'
section
variable (P:Program)(w:World)
noncomputable def bg (H:Hp)(h:Heap)(a:Addr):HO->Prop
 | .lst xs=>xs.length≤sizeLine∧∃ (its:List Value)(n:Nat),aJ xs its∧h.get? a=some { cls:=.type "list",data:=.seq its.toArray n }
 | .tup xs=>xs.length≤sizeLine∧∃ its:List Value,aJ xs its∧IsTup h a its.toArray
 | .dK kvs=>kvs.length≤sizeLine∧(a == sysModules)=false∧∃ vs,KV kvs vs∧h.DictOf (bZ P w) a vs
 | .dT kvs=>kvs.length≤sizeLine∧(a == sysModules)=false∧∃ xs:List (List Key × Addr × Value),
  Paired (fun (p:List Key × V)(q:List Key × Addr × Value)=>p.1=q.1∧H q.2.1=some (.tup (p.1.map kV))∧aB p.2 q.2.2) kvs xs ∧
  ∃ o es ep,h.get? a=some o∧o.ExactDict∧o.data = .dict es ep∧es.toList=xs.map (entryOfKey (tupleKind (bZ P w)))∧(xs.map (·.1)).Nodup
 | .set S n=>h.SetOf (intKind P w) a S n
 | .ins C dx fs=>H dx=some (.own a)∧fs.length≤1000∧dx≠a∧h.get? a=some (PySem.W.instObj C dx) ∧
  ∃ mA,h.Ns1 dx mA∧(∀ f,fe (fs.lookup f) (mA f))∧PySem.Within mA (fs.map (·.1))
 | .own _=>∃ o,h.get? a=some o
 | .xd fs=>∃ mA,h.Ns1 a mA∧∀ f,fe (fs.lookup f) (mA f)
 | .rng lo hi=>∃ t u v,h.get? a=some { cls:=.type "range",data:=.fields #[.int lo t,.int hi u,.int 1 v] }
 | .frz o u=>h.get? a=some o∧bg H h a u
 | .tbl ps=>h.get? a=some { cls:=.none,data:=.fields ps }
 | .met f x=>h.get? a=some (PySem.W.methodObj (.ref f) (.ref x))
 | .ext φ=>φ h∧(∃ o,h.get? a=some o)∧∀ h1 h2:Heap,φ h1->(∀ o,h1.get? a=some o->h2.get? a=some o)->φ h2
noncomputable def eA (H:Hp)(h:Heap):Prop:=∀ a o,H a=some o->bg P w H h a o
end
section
variable {P:Program}{w:World}{H H':Hp}{h h':Heap}{a:Addr}{o:HO}
theorem bg.lt (x:bg P w H h a o):a < h.objs.size:=by
 cases o with
 | lst xs=>obtain ⟨_,_,_,_,e⟩:=x; exact Heap.lt_size e
 | tup xs=>obtain ⟨_,_,_,p⟩:=x; exact p.lt
 | dK kvs=>obtain ⟨_,_,_,_,o,_,_,e,_⟩:=x; exact Heap.lt_size e
 | dT kvs=>obtain ⟨_,_,_,_,o,_,_,e,_⟩:=x; exact Heap.lt_size e
 | set S n=>obtain ⟨o,_,_,_,e,_⟩:=x; exact Heap.lt_size e
 | ins C dx fs=>obtain ⟨_,_,_,e,_⟩:=x; exact Heap.lt_size e
 | own y=>obtain ⟨_,e⟩:=x; exact Heap.lt_size e
 | xd fs=>obtain ⟨_,⟨_,_,_,e,_⟩,_⟩:=x; exact Heap.lt_size e
 | rng lo hi=>obtain ⟨_,_,_,e⟩:=x; exact Heap.lt_size e
 | frz ob u=>obtain ⟨e,_⟩:=x; exact Heap.lt_size e
 | tbl ps=>exact Heap.lt_size (show h.get? a=some _ from x)
 | met f y=>exact Heap.lt_size (show h.get? a=some _ from x)
 | ext φ=>obtain ⟨_,⟨_,e⟩,_⟩:=x; exact Heap.lt_size e
theorem Paired.mapP {α β:Type}{F G:α->β->Prop}:∀ {l₁:List α}{l₂:List β},Paired F l₁ l₂->(∀ a b,F a b->G a b)->Paired G l₁ l₂
 | _,_,.nil,_=>.nil
 | _,_,.cons r t,f=>.cons (f _ _ r) (Paired.mapP t f)
theorem bg.stay (x:bg P w H h a o)(k:∀ b u,(b=a∨H b=some (.own a))->h.get? b=some u->h'.get? b=some u)
 (ho:∀ b,H b=some (.own a)->H' b=some (.own a))(ht:∀ b xs,H b=some (.tup xs)->H' b=some (.tup xs)):bg P w H' h' a o:=by
 induction o with
 | lst xs=>obtain ⟨z,its,n,r,e⟩:=x; exact ⟨z,its,n,r,k _ _ (.inl rfl) e⟩
 | tup xs=>obtain ⟨z,its,r,ob,e,c⟩:=x; exact ⟨z,its,r,ob,k _ _ (.inl rfl) e,c⟩
 | dK kvs=>obtain ⟨z,y,vs,r,ob,es,ep,e,c⟩:=x; exact ⟨z,y,vs,r,ob,es,ep,k _ _ (.inl rfl) e,c⟩
 | dT kvs =>
   obtain ⟨z,y,xs,r,ob,es,ep,e,c⟩:=x
   exact ⟨z,y,xs,Paired.mapP r fun p q z=>⟨z.1,ht _ _ z.2.1,z.2.2⟩,ob,es,ep,k _ _ (.inl rfl) e,c⟩
 | set S n=>obtain ⟨ob,es,ep,t,e,c⟩:=x; exact ⟨ob,es,ep,t,k _ _ (.inl rfl) e,c⟩
 | ins C dx fs =>
   obtain ⟨d,z,ne,e,mA,⟨od,es,ep,e2,c⟩,r⟩:=x
   exact ⟨ho _ d,z,ne,k _ _ (.inl rfl) e,mA,⟨od,es,ep,k _ _ (.inr d) e2,c⟩,r⟩
 | own y=>obtain ⟨ob,e⟩:=x; exact ⟨ob,k _ _ (.inl rfl) e⟩
 | xd fs=>obtain ⟨mA,⟨od,es,ep,e,c⟩,r⟩:=x; exact ⟨mA,⟨od,es,ep,k _ _ (.inl rfl) e,c⟩,r⟩
 | rng lo hi=>obtain ⟨t,u,v,e⟩:=x; exact ⟨t,u,v,k _ _ (.inl rfl) e⟩
 | frz ob u ih=>obtain ⟨e,q⟩:=x; exact ⟨k _ _ (.inl rfl) e,ih q⟩
 | tbl ps =>
   have e:h.get? a=some { cls:=.none,data:=.fields ps }:=x
   show h'.get? a=some { cls:=.none,data:=.fields ps }
   exact k a _ (.inl rfl) e
 | met f y =>
   have e:h.get? a=some (PySem.W.methodObj (.ref f) (.ref y)):=x
   show h'.get? a=some (PySem.W.methodObj (.ref f) (.ref y))
   exact k a _ (.inl rfl) e
 | ext φ=>obtain ⟨p,⟨o,e⟩,st⟩:=x; exact ⟨st _ _ p fun o q=>k _ _ (.inl rfl) q,⟨o,k _ _ (.inl rfl) e⟩,st⟩
theorem eA.lt (x:eA P w H h)(e:H a=some o):a < h.objs.size:=(x a o e).lt
theorem eA.fresh (x:eA P w H h)(e:h.objs.size≤a):H a=none:=by
 cases q:H a with
 | none=>rfl
 | some u=>exact absurd (Nat.lt_of_lt_of_le (x.lt q) e) (Nat.lt_irrefl _)
theorem eA.kept (x:eA P w H h)(k:∀ b u,h.get? b=some u->h'.get? b=some u):eA P w H h':=fun a o e =>
 (x a o e).stay (fun b u _ q=>k b u q) (fun _ q=>q) fun _ _ q=>q
theorem eA.laid (x:eA P w H h)(k:∀ b u,h.get? b=some u->h'.get? b=some u)(hp:h.objs.size≤a)(new:bg P w (upd H a o) h' a o):eA P w (upd H a o) h':=fun b u e=>by
 have hn:=x.fresh hp
 by_cases hb:b=a
 ·subst hb; rw [ac] at e; cases e; exact new
 ·rw [al hb] at e
  exact (x b u e).stay (fun c v _ q=>k c v q) (fun c q=>by rw [al (ap q hn)]; exact q) fun c xs q=>by rw [al (ap q hn)]; exact q
end
noncomputable def Rd (H:Hp)(a:Addr)(u:HO):Prop:=H a=some u∨∃ o,H a=some (.frz o u)
theorem Rd.of {H:Hp}{a:Addr}{u:HO}(h:H a=some u):Rd H a u:=.inl h
theorem Rd.ok {P:Program}{w:World}{H:Hp}{h:Heap}{a:Addr}{u:HO}(r:Rd H a u)(x:eA P w H h):bg P w H h a u:=by
 rcases r with r | ⟨o,r⟩
 ·exact x a u r
 ·obtain ⟨_,q⟩:=x a _ r
  exact q
noncomputable def Bf:Option HO->Prop
 | some (.lst _)=>True
 | some (.dK _)=>True
 | some (.dT _)=>True
 | some (.set _ _)=>True
 | some (.ins _ _ _)=>True
 | some (.ext _)=>True
 | _=>False
section
variable {P:Program}{w:World}{H:Hp}{h h':Heap}{x e:Addr}{o':HO}
theorem eA.write (ok:eA P w H h)(mu:Bf (H x))(he:e=x∨H e=some (.own x))(k:∀ b u,b≠e->h.get? b=some u->h'.get? b=some u)(heo:∃ u,h'.get? e=some u)
 (new:bg P w (upd H x o') h' x o'):eA P w (upd H x o') h':=fun b u q=>by
 have nown:∀ c y,H c=some (.own y)->c≠x:=fun c y r z=>by subst z; rw [r] at mu; exact mu
 have ntup:∀ c xs,H c=some (.tup xs)->c≠x:=fun c xs r z=>by subst z; rw [r] at mu; exact mu
 by_cases hb:b=x
 ·subst hb; rw [ac] at q; cases q; exact new
 ·rw [al hb] at q
  by_cases hbe:b=e
  ·have q':H b=some (.own x):=by
    rcases he with z | z
    ·exact absurd (hbe.trans z) hb
    ·rw [hbe]; exact z
   rw [q] at q'; cases q'
   obtain ⟨v,hv⟩:=heo
   exact ⟨v,by rw [hbe]; exact hv⟩
  ·refine (ok b u q).stay (fun c v hc r=>k c v ?_ r) (fun c r=>by rw [al (nown c b r)]; exact r) fun c xs r=>by rw [al (ntup c xs r)]; exact r
   rcases hc with rfl | hc
   ·exact hbe
   ·rintro rfl
    rcases he with z | z
    ·exact nown c b hc z
    ·rw [hc] at z; cases z; exact hb rfl
end
structure Un (fs ex:List Addr)(H H':Hp)(h h':Heap):Prop where
 keep:∀ b o,h.get? b=some o->H b=none->b ∉ fs->b ∉ ex->h'.get? b=some o
 slot:∀ b o,h.get? b=some o->H b=none->b∈fs->b ∉ ex->∃ sl,h'.get? b=some { o with slots:=sl }
 free:∀ b o,h.get? b=some o->H b=none->b ∉ ex->H' b=none
 there:∀ b o,h.get? b=some o->b ∉ ex->∃ o',h'.get? b=some o'
 tups:∀ b xs,H b=some (.tup xs)->H' b=some (.tup xs)
 frzs:∀ b o u,H b=some (.frz o u)->H' b=some (.frz o u)
 tbls:∀ b ps,H b=some (.tbl ps)->∃ more,H' b=some (.tbl (ps++more))
section
variable {fs fs' ex ex':List Addr}{H H1 H2:Hp}{h h1 h2 h':Heap}{a x e:Addr}{o:HO}
theorem Un.any (u:Un fs ex H H1 h h1){b:Addr}{ob:Obj}(q:h.get? b=some ob)(n:H b=none)(hx:b ∉ ex):∃ sl,h1.get? b=some { ob with slots:=sl }:=by
 by_cases hb:b∈fs
 ·exact u.slot b ob q n hb hx
 ·exact ⟨ob.slots,u.keep b ob q n hb hx⟩
theorem Un.kept (k:∀ b u,h.get? b=some u->h'.get? b=some u):Un fs ex H H h h' :=
 ⟨fun b ob q _ _ _=>k b ob q,fun b ob q _ _ _=>⟨ob.slots,k b ob q⟩,fun _ _ _ n _=>n,fun b ob q _=>⟨ob,k b ob q⟩,fun _ _ q=>q,fun _ _ _ q=>q,fun _ ps q=>⟨#[],by rw [q]; simp⟩⟩
theorem Un.refl:Un fs ex H H h h:=Un.kept fun _ _ q=>q
theorem Un.laid (k:∀ b u,h.get? b=some u->h'.get? b=some u)(hp:h.objs.size≤a)(hn:H a=none):Un fs ex H (upd H a o) h h' where
 keep:=fun b u q _ _ _=>k b u q
 slot:=fun b u q _ _ _=>⟨u.slots,k b u q⟩
 free:=fun b u q n _=>by rw [al (Nat.ne_of_lt (Nat.lt_of_lt_of_le (Heap.lt_size q) hp))]; exact n
 there:=fun b u q _=>⟨u,k b u q⟩
 tups:=fun b xs q=>by rw [al (ap q hn)]; exact q
 frzs:=fun b u xs q=>by rw [al (ap q hn)]; exact q
 tbls:=fun b ps q=>⟨#[],by rw [al (ap q hn),q]; simp⟩
theorem Un.write (mu:Bf (H x))(he:e=x∨H e=some (.own x))(k:∀ b u,b≠e->h.get? b=some u->h'.get? b=some u)(heo:∃ u,h'.get? e=some u):Un fs ex H (upd H x o) h h':=by
 have hx:∀ b,H b=none->b≠x:=fun b n z=>by subst z; rw [n] at mu; exact mu
 have hb:∀ b,H b=none->b≠e:=fun b n z=>by
  subst z
  rcases he with r | r
  ·exact hx b n r
  ·rw [n] at r; cases r
 have hm:∀ b u,H b=some u->¬ Bf (some u)->b≠x:=fun b u q nm z=>by subst z; rw [q] at mu; exact nm mu
 refine ⟨fun b u q n _ _=>k b u (hb b n) q,fun b u q n _ _=>⟨u.slots,k b u (hb b n) q⟩,fun b u q n _=>by rw [al (hx b n)]; exact n,fun b u q _=>?_,
  fun b xs q=>by rw [al (hm b _ q fun z=>z)]; exact q,fun b u xs q=>by rw [al (hm b _ q fun z=>z)]; exact q,fun b ps q=>⟨#[],by rw [al (hm b _ q fun z=>z),q]; simp⟩⟩
 by_cases hbe:b=e
 ·subst hbe; exact heo
 ·exact ⟨u,k b u hbe q⟩
end
noncomputable def BI (h:Heap)(H:Hp):List Addr:=(List.range h.objs.size).filter fun a=>(H a).isSome
noncomputable def ll (h:Heap)(H:Hp):Heap:=PySem.W.hideAll h (BI h H)
theorem ue (h:Heap)(H:Hp):(ll h H).objs.size=h.objs.size:=PySem.W.hideAll_size _ _
theorem vS {h:Heap}{H:Hp}{b:Addr}{o:Obj}(e:h.get? b=some o)(n:H b=none):(ll h H).get? b=some o :=
 PySem.W.hideAll_get _ e fun hm=>by
  have q:(H b).isSome=true:=(List.mem_filter.mp hm).2
  rw [n] at q; simp at q
theorem yJ {h:Heap}{H:Hp}{b:Addr}{o:Obj}(e:(ll h H).get? b=some o):h.get? b=some o∧H b=none:=by
 have e':h.get? b=some o:=PySem.W.of_hideAll (BI h H) e
 refine ⟨e',?_⟩
 cases q:H b with
 | none=>rfl
 | some x =>
   have hm:b∈BI h H:=List.mem_filter.mpr ⟨List.mem_range.mpr (Heap.lt_size e'),by simp [q]⟩
   have z:(ll h H).get? b=none:=PySem.W.hideAll_none (BI h H) hm
   rw [z] at e; cases e
structure Mod (K:PySem.W.Frag)(mg:Str->Option Value)(base:Heap):Prop where
 kin:K.In base
 glob:base.Ns mainGlobals mg
 blt:∃ mb,base.Ns builtinsNs mb∧∀ x:Str,x ≠ "__name__"->mb x=bootBuiltins x
 nolimit:base.NoLimit
structure Cx where
 prog:Program
 w:World
 K:PySem.W.Frag
 mg:Str->Option Value
 base:Heap
 A:Around
 N:List Str
 s₀:Shared
 H₀:Hp
 env:Env
 outer:List Env
 stack:List Env
 ex:List Addr
 fn:Str->Bool
 calm:Bool
 pn:List (Addr × Obj)
 xe:Value->Shared->Prop
noncomputable def dS (l:List Env):List Addr:=l.filterMap (·.frame)
noncomputable abbrev Cx.fs (X:Cx):List Addr:=dS X.outer
noncomputable def BK (sc:Scope)(x:Str):Prop:=sc.names.lookup x=some .local∨sc.names.lookup x=some .cell∨sc.names.lookup x=some .free
noncomputable def Bo (sc:Scope)(x:Str):Prop:=sc.names.lookup x=some .local∨sc.names.lookup x=some .cell
noncomputable def Cw (env:Env)(h:Heap)(m:Str->Option Value)(x:Str)(u:Value):Prop :=
 (env.kindOf x=some .local∧m x=some u)∨((env.kindOf x=some .cell∨env.kindOf x=some .free)∧∃ c,env.cells.lookup x=some c∧h.IsCell c (some u))
structure Cx.Ok (X:Cx):Prop where
 mod:Mod X.K X.mg X.base
 kind:X.env.scope.kind = .function
 glob:X.env.globals=mainGlobals
 blt:X.env.builtins=builtinsNs
 above:X.s₀.heap.objs.size≤X.env.locals
 inj:∀ x y c,X.env.cells.lookup x=some c->X.env.cells.lookup y=some c->x=y
 has:∀ x,(X.env.kindOf x=some .cell∨X.env.kindOf x=some .free)->∃ c,X.env.cells.lookup x=some c
 cab:∀ x c,X.fn x=true->X.env.cells.lookup x=some c->X.s₀.heap.objs.size≤c
 hd:X.calm=true->X.A.handled=none
 frames:X.A.frames=some X.stack
 stk:X.stack=X.outer∨(X.stack=X.env :: X.outer∧X.env.frame=some X.env.locals)
 exf:∀ b∈X.ex,b≠X.env.locals∧∀ x c,X.env.cells.lookup x=some c->c≠b
 bs:∀ b o,X.base.get? b=some o->X.s₀.heap.get? b=some o∧X.H₀ b=none
 bsz:X.base.objs.size≤X.s₀.heap.objs.size
 noex:∀ b o,X.base.get? b=some o->b ∉ X.ex
 exfs:∀ b∈X.ex,b ∉ X.fs
 funs:X.s₀.heap.FunFrames X.base X.outer
 frf:∀ b∈X.fs,X.H₀ b=none
structure Inv (X:Cx)(pins:List (Addr × Obj))(σ:List (Option V))(H:Hp)(s:Shared):Prop where
 ok:X.Ok
 os:s.os=X.s₀.os
 bare:AllBare s.gens
 base:Un X.fs X.ex X.H₀ H X.s₀.heap s.heap
 loc:∃ m,s.heap.Ns X.env.locals m∧∀ (i:Nat)(x:Str)(v:V),X.N[i]?=some x->σ[i]?=some (some v)->BK X.env.scope x->∃ u,aB v u∧Cw X.env s.heap m x u
 cell:∀ x c,X.env.cells.lookup x=some c->∃ v,s.heap.IsCell c v
 free:H X.env.locals=none
 freeC:∀ x c,X.env.cells.lookup x=some c->H c=none
 pin:∀ p∈X.pn++pins,s.heap.get? p.1=some p.2∧H p.1=none∧p.1≠X.env.locals∧p.1 ∉ X.fs∧∀ v,p.2.data ≠ .cell v
 hok:eA X.prog X.w H s.heap
 len:σ.length=X.N.length
section
variable {X:Cx}{pins:List (Addr × Obj)}{σ:List (Option V)}{H H':Hp}{s:Shared}{h':Heap}
theorem Cx.Ok.nofr (ok:X.Ok){b:Addr}{o:Obj}(e:X.base.get? b=some o):b ∉ X.fs:=fun hb=>by
 have:=(ok.funs.mem hb).1
 rw [e] at this; cases this
theorem Inv.bs (I:Inv X pins σ H s):∀ b o,X.base.get? b=some o->s.heap.get? b=some o∧H b=none:=fun b o e =>
 ⟨I.base.keep b o (I.ok.bs b o e).1 (I.ok.bs b o e).2 (I.ok.nofr e) (I.ok.noex b o e),I.base.free b o (I.ok.bs b o e).1 (I.ok.bs b o e).2 (I.ok.noex b o e)⟩
theorem Inv.bk (I:Inv X pins σ H s):∀ b o,X.base.get? b=some o->s.heap.get? b=some o:=fun b o e=>(I.bs b o e).1
theorem Inv.mod (I:Inv X pins σ H s):Mod X.K X.mg X.base:=I.ok.mod
theorem Inv.kIn (I:Inv X pins σ H s):X.K.In s.heap:=I.ok.mod.kin.keeps I.bk
theorem Inv.lt (I:Inv X pins σ H s):X.env.locals < s.heap.objs.size:=let ⟨_,hn,_⟩:=I.loc; hn.lt
theorem Inv.sz (I:Inv X pins σ H s):X.s₀.heap.objs.size≤s.heap.objs.size:=Nat.le_trans I.ok.above (Nat.le_of_lt I.lt)
theorem Inv.nofs (I:Inv X pins σ H s){a:Addr}(h:s.heap.objs.size≤a):a ∉ X.fs:=fun hb=>by
 obtain ⟨_,o,ho,_⟩:=I.ok.funs.mem hb
 exact absurd (Nat.lt_of_lt_of_le (Heap.lt_size ho) (Nat.le_trans I.sz h)) (Nat.lt_irrefl _)
theorem Inv.cne (I:Inv X pins σ H s):∀ x c,X.env.cells.lookup x=some c->c≠X.env.locals:=fun x c e z=>by
 obtain ⟨v,o,ho,hd⟩:=I.cell x c e
 obtain ⟨m,⟨o',es,ep,ho',hd',_⟩,_⟩:=I.loc
 rw [z,ho'] at ho; cases ho; rw [hd'] at hd; cases hd
theorem Inv.funs (I:Inv X pins σ H s):s.heap.FunFrames X.base X.outer:=by
 have all:∀ (l:List Env),(∀ b∈dS l,b∈X.fs)->X.s₀.heap.FunFrames X.base l->s.heap.FunFrames X.base l:=by
  intro l
  induction l with
  | nil=>intro _ _; trivial
  | cons env r ih =>
    intro hs hl
    obtain ⟨hk,⟨L,o,hf,hn,ho,hd⟩,hr⟩:=hl
    have hL:L∈X.fs:=hs L (by unfold dS; rw [List.filterMap_cons,hf]; exact List.mem_cons_self)
    obtain ⟨sl,e⟩:=I.base.slot L o ho (I.ok.frf L hL) hL fun z=>I.ok.exfs L z hL
    exact ⟨hk,⟨L,_,hf,hn,e,hd⟩,ih (fun b hb=>hs b (by unfold dS; rw [List.filterMap_cons,hf]; exact List.mem_cons_of_mem _ hb)) hr⟩
 exact all X.outer (fun _ hb=>hb) I.ok.funs
theorem Inv.stack (I:Inv X pins σ H s):s.heap.FunFrames X.base X.stack:=by
 rcases I.ok.stk with e | ⟨e,hf⟩
 ·rw [e]; exact I.funs
 ·rw [e]
  obtain ⟨m,hn,_⟩:=I.loc
  refine .cons (by rw [I.ok.kind]; decide) hf hn ?_ I.funs
  exact Heap.get?_none_of_le (Nat.le_trans I.ok.bsz I.ok.above)
theorem Inv.stkSub (I:Inv X pins σ H s):∀ b∈dS X.stack,b∈X.env.locals :: X.fs:=fun b hb=>by
 rcases I.ok.stk with e | ⟨e,hf⟩
 ·rw [e] at hb; exact List.mem_cons_of_mem _ hb
 ·rw [e] at hb
  unfold dS at hb
  rw [List.filterMap_cons,hf] at hb
  exact hb
theorem Inv.stkFree (I:Inv X pins σ H s):∀ b∈dS X.stack,H b=none:=fun b hb=>by
 rcases List.mem_cons.mp (I.stkSub b hb) with e | hb
 ·rw [e]; exact I.free
 ·obtain ⟨_,o,ho,_⟩:=I.ok.funs.mem hb
  exact I.base.free b o ho (I.ok.frf b hb) fun z=>I.ok.exfs b z hb
theorem Inv.step {g':Array GenState}{t':Nat}{d':Drawn}{ch:List Addr}(I:Inv X pins σ H s)
 (hch:∀ b∈ch,(b∈X.ex∨X.s₀.heap.objs.size≤b)∧b≠X.env.locals∧(∀ x c,X.env.cells.lookup x=some c->c≠b)∧∀ p∈X.pn++pins,p.1≠b)
 (keep:∀ b o,b≠X.env.locals->b ∉ X.fs->b ∉ ch->s.heap.get? b=some o->H b=none->h'.get? b=some o)
 (slot:∀ b o,b≠X.env.locals->b∈X.fs->b ∉ ch->s.heap.get? b=some o->H b=none->∃ sl,h'.get? b=some { o with slots:=sl })(free:∀ b o,b ∉ ch->s.heap.get? b=some o->H b=none->H' b=none)
 (there:∀ b o,b ∉ ch->s.heap.get? b=some o->∃ o',h'.get? b=some o')
 (tups:∀ b xs,H b=some (.tup xs)->H' b=some (.tup xs))(frzs:∀ b o u,H b=some (.frz o u)->H' b=some (.frz o u))(tbls:∀ b ps,H b=some (.tbl ps)->∃ more,H' b=some (.tbl (ps++more)))
 (ns:∀ m,s.heap.Ns X.env.locals m->h'.Ns X.env.locals m)(hok:eA X.prog X.w H' h')(hg:AllBare g'):
 Inv X pins σ H' { s with heap:=h',gens:=g',drawn:=d',toks:=t' }:=by
 have neL:∀ b o,X.s₀.heap.get? b=some o->b≠X.env.locals:=fun b o e=>Nat.ne_of_lt (Nat.lt_of_lt_of_le (Heap.lt_size e) I.ok.above)
 have neC:∀ b o,X.s₀.heap.get? b=some o->b ∉ X.ex->b ∉ ch:=fun b o e hx hb=>by
  rcases (hch b hb).1 with z | z
  ·exact hx z
  ·exact absurd (Nat.lt_of_lt_of_le (Heap.lt_size e) z) (Nat.lt_irrefl _)
 have cellK:∀ x c,X.env.cells.lookup x=some c->∀ v,s.heap.IsCell c v->h'.IsCell c v:=fun x c e v ⟨o,ho,hd⟩=>by
  have nch:c ∉ ch:=fun z=>(hch c z).2.2.1 x c e rfl
  by_cases hc:c∈X.fs
  ·obtain ⟨sl,q⟩:=slot c o (I.cne x c e) hc nch ho (I.freeC x c e)
   exact ⟨_,q,hd⟩
  ·exact ⟨o,keep c o (I.cne x c e) hc nch ho (I.freeC x c e),hd⟩
 refine ⟨I.ok,I.os,hg,⟨fun b o e n hb hx=>?_,fun b o e n hb hx=>?_,fun b o e n hx=>?_,fun b o e hx=>?_,fun b xs e=>tups b xs (I.base.tups b xs e),fun b o xs e=>frzs b o xs (I.base.frzs b o xs e),fun b ps e=>?_⟩,?_,fun x c e=>?_,?_,fun x c e=>?_,fun p hp=>?_,hok,I.len⟩
 ·exact keep b o (neL b o e) hb (neC b o e hx) (I.base.keep b o e n hb hx) (I.base.free b o e n hx)
 ·obtain ⟨sl,e1⟩:=I.base.slot b o e n hb hx
  obtain ⟨sl',e2⟩:=slot b _ (neL b o e) hb (neC b o e hx) e1 (I.base.free b o e n hx)
  exact ⟨sl',e2⟩
 ·obtain ⟨o',e1⟩:=I.base.there b o e hx
  exact free b o' (neC b o e hx) e1 (I.base.free b o e n hx)
 ·obtain ⟨o',e1⟩:=I.base.there b o e hx
  exact there b o' (neC b o e hx) e1
 ·obtain ⟨m1,e1⟩:=I.base.tbls b ps e
  obtain ⟨m2,e2⟩:=tbls b _ e1
  exact ⟨m1++m2,by rw [e2,Array.append_assoc]⟩
 ·obtain ⟨m,hn,hl⟩:=I.loc
  refine ⟨m,ns m hn,fun i x v e1 e2 e3=>?_⟩
  obtain ⟨u,r,l⟩:=hl i x v e1 e2 e3
  refine ⟨u,r,?_⟩
  rcases l with l | ⟨k,c,e,z⟩
  ·exact .inl l
  ·exact .inr ⟨k,c,e,cellK x c e _ z⟩
 ·obtain ⟨v,z⟩:=I.cell x c e
  exact ⟨v,cellK x c e v z⟩
 ·obtain ⟨m,⟨o,_,_,ho,_⟩,_⟩:=I.loc
  exact free _ o (fun z=>(hch _ z).2.1 rfl) ho I.free
 ·obtain ⟨v,o,ho,hd⟩:=I.cell x c e
  exact free c o (fun z=>(hch c z).2.2.1 x c e rfl) ho (I.freeC x c e)
 ·obtain ⟨e,n,ne,nf,d⟩:=I.pin p hp
  have nch:p.1 ∉ ch:=fun z=>(hch p.1 z).2.2.2 p hp rfl
  exact ⟨keep p.1 p.2 ne nf nch e n,free p.1 p.2 nch e n,ne,nf,d⟩
theorem Inv.un {t':Nat}(I:Inv X pins σ H s)(u:Un X.fs [] H H' s.heap h')(hok:eA X.prog X.w H' h'):Inv X pins σ H' { s with heap:=h',toks:=t' }:=by
 obtain ⟨m,⟨o,es,ep,ho,r⟩,_⟩:=id I.loc
 obtain ⟨sl,hL⟩:=u.any ho I.free (by simp)
 exact I.step (g':=s.gens) (d':=s.drawn) (ch:=[]) (fun _ z=>nomatch z) (fun b o _ hb _ e n=>u.keep b o e n hb (by simp)) (fun b o _ hb _ e n=>u.slot b o e n hb (by simp)) (fun b o _ e n=>u.free b o e n (by simp)) (fun b o _ e=>u.there b o e (by simp)) u.tups u.frzs u.tbls (fun m' hm=>by
  obtain ⟨o',es',ep',ho',r'⟩:=hm
  rw [ho] at ho'; cases ho'
  exact ⟨_,es',ep',hL,r'⟩) hok I.bare
theorem Inv.call {g':Array GenState}{t':Nat}{d':Drawn}{ch:List Addr}(I:Inv X pins σ H s)(u:Un (dS X.stack) ch H H' s.heap h')(hok:eA X.prog X.w H' h')(hg:AllBare g')
 (hch:∀ b∈ch,(b∈X.ex∨X.s₀.heap.objs.size≤b)∧b≠X.env.locals∧(∀ x c,X.env.cells.lookup x=some c->c≠b)∧∀ p∈X.pn++pins,p.1≠b):
 Inv X pins σ H' { s with heap:=h',gens:=g',drawn:=d',toks:=t' }:=by
 obtain ⟨m,⟨o,es,ep,ho,r⟩,_⟩:=id I.loc
 obtain ⟨sl,hL⟩:=u.any ho I.free fun z=>(hch _ z).2.1 rfl
 exact I.step (ch:=ch) hch (fun b o hL hb hc e n=>u.keep b o e n (fun z=>(List.mem_cons.mp (I.stkSub b z)).elim hL hb) hc) (fun b o _ _ hc e n=>u.any e n hc) (fun b o hc e n=>u.free b o e n hc) (fun b o hc e=>u.there b o e hc) u.tups u.frzs u.tbls (fun m' hm=>by
  obtain ⟨o',es',ep',ho',r'⟩:=hm
  rw [ho] at ho'; cases ho'
  exact ⟨_,es',ep',hL,r'⟩) hok hg
theorem Inv.turned {t':Nat}{it:Addr}(I:Inv X pins σ H s)(k:∀ b o,b≠it->s.heap.get? b=some o->h'.get? b=some o)(hn:H it=none)(hL:it≠X.env.locals)
 (h1:it∈X.ex∨X.s₀.heap.objs.size≤it)(h2:∀ x c,X.env.cells.lookup x=some c->c≠it)(h3:∀ p∈X.pn++pins,p.1≠it):Inv X pins σ H { s with heap:=h',toks:=t' }:=by
 have nit:∀ b u,H b=some u->b≠it:=fun b u e z=>by rw [z,hn] at e; cases e
 refine I.step (g':=s.gens) (d':=s.drawn) (ch:=[it]) (fun b hb=>?_) (fun b o _ _ hc e _=>k b o (fun z=>hc (by simp [z])) e) (fun b o _ _ hc e _=>⟨o.slots,k b o (fun z=>hc (by simp [z])) e⟩) (fun _ _ _ _ n=>n)
  (fun b o hc e=>⟨o,k b o (fun z=>hc (by simp [z])) e⟩) (fun _ _ e=>e) (fun _ _ _ e=>e) (fun b ps e=>⟨#[],by rw [e]; simp⟩) (fun m hm=>?_) (fun b u e=>?_) I.bare
 ·have e:b=it:=by simpa using hb
  subst e
  exact ⟨h1,hL,h2,h3⟩
 ·obtain ⟨o,es,ep,ho,r⟩:=hm
  exact ⟨o,es,ep,k _ o (Ne.symm hL) ho,r⟩
 ·refine (I.hok b u e).stay (fun c v hc q=>k c v ?_ q) (fun _ q=>q) fun _ _ q=>q
  rcases hc with z | z
  ·rw [z]; exact nit b u e
  ·exact nit c _ z
theorem Inv.tok (I:Inv X pins σ H s)(t:Nat):Inv X pins σ H { s with toks:=t }:=I.un (h':=s.heap) (t':=t) Un.refl I.hok
theorem Inv.kept {t':Nat}(I:Inv X pins σ H s)(k:∀ b u,s.heap.get? b=some u->h'.get? b=some u):Inv X pins σ H { s with heap:=h',toks:=t' }:=I.un (Un.kept k) (I.hok.kept k)
theorem Inv.laid {a:Addr}{o:HO}{t':Nat}(I:Inv X pins σ H s)(k:∀ b u,s.heap.get? b=some u->h'.get? b=some u)(hp:s.heap.objs.size≤a)(new:bg X.prog X.w (upd H a o) h' a o):
 Inv X pins σ (upd H a o) { s with heap:=h',toks:=t' }:=I.un (Un.laid k hp (I.hok.fresh hp)) (I.hok.laid k hp new)
theorem Inv.write {x e:Addr}{o:HO}{t':Nat}(I:Inv X pins σ H s)(mu:Bf (H x))(he:e=x∨H e=some (.own x))(k:∀ b u,b≠e->s.heap.get? b=some u->h'.get? b=some u)(heo:∃ u,h'.get? e=some u)
 (new:bg X.prog X.w (upd H x o) h' x o):Inv X pins σ (upd H x o) { s with heap:=h',toks:=t' }:=I.un (Un.write mu he k heo) (I.hok.write mu he k heo new)
theorem Inv.pins_of {pins':List (Addr × Obj)}(I:Inv X pins σ H s)(h:∀ p∈pins',s.heap.get? p.1=some p.2∧H p.1=none∧p.1≠X.env.locals∧p.1 ∉ X.fs∧∀ v,p.2.data ≠ .cell v):Inv X pins' σ H s :=
 ⟨I.ok,I.os,I.bare,I.base,I.loc,I.cell,I.free,I.freeC,fun p hp=>(List.mem_append.mp hp).elim (fun z=>I.pin p (List.mem_append_left _ z)) (h p),I.hok,I.len⟩
theorem li {N:List Str}(hN:N.Nodup){i j:Nat}{x:Str}(a:N[i]?=some x)(b:N[j]?=some x):i=j:=by
 obtain ⟨h1,e1⟩:=List.getElem?_eq_some_iff.mp a
 obtain ⟨h2,e2⟩:=List.getElem?_eq_some_iff.mp b
 exact (List.getElem_inj hN).mp (e1.trans e2.symm)
theorem lU {M:Model}{A:Around}{E:Value->Shared->Prop}{i:Nat}{x:Str}{v:V}{u:Value}{Q:Unit->Shared->Prop}(I:Inv X pins σ H s)(hN:X.N.Nodup)(hi:X.N[i]?=some x)(hx:Bo X.env.scope x)(r:aB v u)
 (h:∀ s',Inv X pins (σ.set i (some v)) H s'->(∃ a,Heap.SameBut a s.heap s'.heap∧(a=X.env.locals∨X.env.cells.lookup x=some a))->Q () s')(hf:X.fn x=true∨X.env.scope.names.lookup x=some .local:=by first | exact .inl rfl | exact .inr rfl | assumption):wpAny M A (storeName X.env x u) Q E s:=by
 obtain ⟨m,hn,hl⟩:=id I.loc
 have hcls:(X.env.scope.kind == .class || (X.env.scope.kind == .module&&X.env.locals != X.env.globals))=false:=by rw [I.ok.kind]; rfl
 have hiσ:i < σ.length:=by rw [I.len]; exact (List.getElem?_eq_some_iff.mp hi).1
 have cne:=I.cne
 have tracked:∀ {a:Addr}{h':Heap},(∃ o,s.heap.get? a=some o∧H a=none)->Heap.SameBut a s.heap h'->eA X.prog X.w H h':=fun {a h'} ha hs b ob e=>by
  obtain ⟨_,_,hfree⟩:=ha
  refine (I.hok b ob e).stay (fun c w' hc q=>(hs.2 c ?_).trans q) (fun _ q=>q) fun _ _ q=>q
  rintro rfl
  rcases hc with rfl | hc
  ·rw [hfree] at e; cases e
  ·rw [hfree] at hc; cases hc
 rcases hx with hk | hk
 ·refine wpAny_storeName_local hk hn (fun h' hn' hs=>?_) hcls
  obtain ⟨oL,_,_,hoL,_⟩:=id hn
  refine h _ ⟨I.ok,I.os,I.bare,⟨fun b o e n hb hx=>?_,fun b o e n hb hx=>?_,I.base.free,fun b o e hx=>?_,I.base.tups,I.base.frzs,I.base.tbls⟩,⟨_,hn',fun j y v' e1 e2 e3=>?_⟩,fun y c e=>?_,I.free,I.freeC,fun p hp=>?_,tracked ⟨oL,hoL,I.free⟩ hs,by simpa using I.len⟩ ⟨_,hs,.inl rfl⟩
  ·exact (hs.2 b (Nat.ne_of_lt (Nat.lt_of_lt_of_le (Heap.lt_size e) I.ok.above))).trans (I.base.keep b o e n hb hx)
  ·obtain ⟨sl,e1⟩:=I.base.slot b o e n hb hx
   exact ⟨sl,(hs.2 b (Nat.ne_of_lt (Nat.lt_of_lt_of_le (Heap.lt_size e) I.ok.above))).trans e1⟩
  ·obtain ⟨o',e1⟩:=I.base.there b o e hx
   exact ⟨o',(hs.2 b (Nat.ne_of_lt (Nat.lt_of_lt_of_le (Heap.lt_size e) I.ok.above))).trans e1⟩
  ·by_cases hj:j=i
   ·subst hj
    rw [hi] at e1; cases e1
    rw [List.getElem?_set_self hiσ] at e2
    cases e2
    exact ⟨u,r,.inl ⟨hk,by simp⟩⟩
   ·rw [List.getElem?_set_ne (Ne.symm hj)] at e2
    obtain ⟨u',r',q⟩:=hl j y v' e1 e2 e3
    refine ⟨u',r',?_⟩
    rcases q with ⟨k,e⟩ | ⟨k,c,e,z⟩
    ·refine .inl ⟨k,?_⟩
     have:y≠x:=fun e=>hj (li hN e1 (e ▸ hi))
     simp [this,e]
    ·exact .inr ⟨k,c,e,z.sameBut hs (cne y c e)⟩
  ·obtain ⟨w',z⟩:=I.cell y c e
   exact ⟨w',z.sameBut hs (cne y c e)⟩
  ·obtain ⟨e,n,ne,nf,d⟩:=I.pin p hp
   exact ⟨(hs.2 p.1 ne).trans e,n,ne,nf,d⟩
 ·have hfn:X.fn x=true:=by
   rcases hf with z | z
   ·exact z
   ·rw [z] at hk; cases hk
  obtain ⟨c,hc⟩:=I.ok.has x (.inl hk)
  obtain ⟨w',z⟩:=I.cell x c hc
  refine wpAny_storeName_cell I.ok.kind hk hc z (fun h' hc' hs=>?_)
  obtain ⟨oc,hoc,hocd⟩:=id z
  refine h { s with heap:=h' } ⟨I.ok,I.os,I.bare,⟨fun b o e n hb hx=>?_,fun b o e n hb hx=>?_,I.base.free,fun b o e hx=>?_,I.base.tups,I.base.frzs,I.base.tbls⟩,⟨m,hn.sameBut hs (Ne.symm (cne x c hc)),fun j y v' e1 e2 e3=>?_⟩,fun y c' e=>?_,I.free,I.freeC,fun p hp=>?_,tracked ⟨oc,hoc,I.freeC x c hc⟩ hs,by simpa using I.len⟩ ⟨c,hs,.inr hc⟩
  ·exact (hs.2 b (Nat.ne_of_lt (Nat.lt_of_lt_of_le (Heap.lt_size e) (I.ok.cab x c hfn hc)))).trans (I.base.keep b o e n hb hx)
  ·obtain ⟨sl,e1⟩:=I.base.slot b o e n hb hx
   exact ⟨sl,(hs.2 b (Nat.ne_of_lt (Nat.lt_of_lt_of_le (Heap.lt_size e) (I.ok.cab x c hfn hc)))).trans e1⟩
  ·obtain ⟨o',e1⟩:=I.base.there b o e hx
   exact ⟨o',(hs.2 b (Nat.ne_of_lt (Nat.lt_of_lt_of_le (Heap.lt_size e) (I.ok.cab x c hfn hc)))).trans e1⟩
  ·by_cases hj:j=i
   ·subst hj
    rw [hi] at e1; cases e1
    rw [List.getElem?_set_self hiσ] at e2
    cases e2
    exact ⟨u,r,.inr ⟨.inl hk,c,hc,hc'⟩⟩
   ·rw [List.getElem?_set_ne (Ne.symm hj)] at e2
    obtain ⟨u',r',q⟩:=hl j y v' e1 e2 e3
    refine ⟨u',r',?_⟩
    rcases q with q | ⟨k,c',e,z'⟩
    ·exact .inl q
    ·refine .inr ⟨k,c',e,z'.sameBut hs ?_⟩
     rintro rfl
     exact hj (li hN e1 (I.ok.inj _ _ _ e hc ▸ hi))
  ·by_cases hcc:c'=c
   ·subst hcc; exact ⟨_,hc'⟩
   ·obtain ⟨w2,z2⟩:=I.cell y c' e
    exact ⟨w2,z2.sameBut hs hcc⟩
  ·obtain ⟨e,n,ne,nf,d⟩:=I.pin p hp
   refine ⟨(hs.2 p.1 ?_).trans e,n,ne,nf,d⟩
   intro q
   rw [q,hoc] at e
   have q':oc=p.2:=Option.some.inj e
   exact d w' (by rw [← q']; exact hocd)
theorem fP {M:Model}{A:Around}{E:Value->Shared->Prop}{i:Nat}{x:Str}{v:V}{u:Value}{Q:Unit->Shared->Prop}(I:Inv X pins σ H s)(hN:X.N.Nodup)(hi:X.N[i]?=some x)(hx:Bo X.env.scope x)(r:aB v u)
 (h:∀ s',Inv X pins (σ.set i (some v)) H s'->Q () s')(hf:X.fn x=true∨X.env.scope.names.lookup x=some .local:=by first | exact .inl rfl | exact .inr rfl | assumption):wpAny M A (storeName X.env x u) Q E s :=
 lU I hN hi hx r (fun s' I' _=>h s' I') hf
theorem Inv.call' {s':Shared}{ch:List Addr}(I:Inv X pins σ H s)(ho:s'.os=s.os)(u:Un (dS X.stack) ch H H' s.heap s'.heap)(hok:eA X.prog X.w H' s'.heap)(hg:AllBare s'.gens)
 (hch:∀ b∈ch,(b∈X.ex∨X.s₀.heap.objs.size≤b)∧b≠X.env.locals∧(∀ x c,X.env.cells.lookup x=some c->c≠b)∧∀ p∈X.pn++pins,p.1≠b):Inv X pins σ H' s':=by
 obtain ⟨h',g',d',t',o'⟩:=s'
 have e:o'=s.os:=ho
 subst e
 exact I.call (g':=g') (t':=t') (d':=d') u hok hg hch
end
noncomputable abbrev XK:=Value->Option Addr->Hp->Prop
noncomputable abbrev St:=List (Option V)
noncomputable abbrev VK:=V->Hp->Prop
noncomputable abbrev TE:=St->Hp->VK->Prop
noncomputable abbrev TT:=St->Hp->(Bool->Hp->Prop)->Prop
noncomputable abbrev TA:=St->Hp->(List V->Hp->Prop)->Prop
structure Ends where
 nx:St->Hp->Prop
 rt:VK
 bk:St->Hp->Prop:=fun _ _=>False
 ct:St->Hp->Prop:=fun _ _=>False
noncomputable abbrev TS:=Ends->St->Hp->Prop
noncomputable def EP (X:Cx)(pins:List (Addr × Obj))(σ:St)(Q:VK)(u:Value)(s':Shared):Prop:=∃ v H',Inv X pins σ H' s'∧aB v u∧Q v H'
noncomputable def TP (X:Cx)(pins:List (Addr × Obj))(σ:St)(Q:Bool->Hp->Prop)(b:Bool)(s':Shared):Prop:=∃ H',Inv X pins σ H' s'∧Q b H'
noncomputable def AP (X:Cx)(pins:List (Addr × Obj))(σ:St)(Q:List V->Hp->Prop)(us:List Value)(s':Shared):Prop:=∃ vs H',Inv X pins σ H' s'∧aJ vs us∧Q vs H'
noncomputable def SP (X:Cx)(pins:List (Addr × Obj))(D:Ends)(f:Flow)(s':Shared):Prop :=
 match f with
 | .next=>∃ σ' H',Inv X pins σ' H' s'∧D.nx σ' H'
 | .brk=>∃ σ' H',Inv X pins σ' H' s'∧D.bk σ' H'
 | .cont=>∃ σ' H',Inv X pins σ' H' s'∧D.ct σ' H'
 | .ret u=>∃ v σ' H',Inv X pins σ' H' s'∧aB v u∧D.rt v H'
noncomputable def PE (X:Cx)(e:Expr)(t:TE):Prop :=
 ∀ (pins:List (Addr × Obj))(s:Shared)(σ:St)(H:Hp)(Q:VK),Inv X pins σ H s->t σ H Q->wpAny (model X.prog X.w) X.A (eval e X.env) (EP X pins σ Q) X.xe s
noncomputable def PT (X:Cx)(e:Expr)(t:TT):Prop :=
 ∀ (pins:List (Addr × Obj))(s:Shared)(σ:St)(H:Hp)(Q:Bool->Hp->Prop),Inv X pins σ H s->t σ H Q->wpAny (model X.prog X.w) X.A (isTrue e X.env (eval e X.env)) (TP X pins σ Q) X.xe s
noncomputable def PW (X:Cx)(e:Expr)(t:TT):Prop :=
 ∀ (cB:Sem Value)(pins:List (Addr × Obj))(s:Shared)(σ:St)(H:Hp)(Q:Bool->Hp->Prop),Inv X pins σ H s->t σ H Q->wpAny (model X.prog X.w) X.A (isTrue e X.env cB) (TP X pins σ Q) X.xe s
theorem PW.pt {X:Cx}{e:Expr}{t:TT}(h:PW X e t):PT X e t:=h _
noncomputable def PA (X:Cx)(es:List Expr)(t:TA):Prop :=
 ∀ (pos:Pos)(pins:List (Addr × Obj))(s:Shared)(σ:St)(H:Hp)(Q:List V->Hp->Prop),Inv X pins σ H s->t σ H Q->wpAny (model X.prog X.w) X.A (spliced (backTo pos (starEach es X.env))) (AP X pins σ Q) X.xe s
noncomputable def PS (X:Cx)(st:Stmt)(t:TS):Prop :=
 ∀ (pins:List (Addr × Obj))(s:Shared)(σ:St)(H:Hp)(D:Ends),Inv X pins σ H s->t D σ H->wpAny (model X.prog X.w) X.A (exec st X.env) (SP X pins D) X.xe s
noncomputable def ja (X:Cx)(st:List Stmt)(t:TS):Prop :=
 ∀ (pins:List (Addr × Obj))(s:Shared)(σ:St)(H:Hp)(D:Ends),Inv X pins σ H s->t D σ H->wpAny (model X.prog X.w) X.A (execs st X.env) (SP X pins D) X.xe s
theorem bF {α:Type}{t:Sem α}{Q Q':α->Shared->Prop}{M:Model}{A:Around}{E:Value->Shared->Prop}{s:Shared}(h:wpAny M A t Q E s)(hQ:∀ a s,Q a s->Q' a s):wpAny M A t Q' E s:=wpAny_mono h hQ fun _ _ x=>x
section
variable {X:Cx}
noncomputable def c7 (i:Nat):TE:=fun σ H Q=>∃ v,σ[i]?=some (some v)∧Q v H
noncomputable def tC (v:V):TE:=fun _ H Q=>Q v H
theorem zL {i:Nat}{x:Str}{pos:Pos}(hN:X.N[i]?=some x)(hv:BK X.env.scope x)(hd:(x == ("__debug__":Str))=false:=by decide)(hcd:(x == ("__classdict__":Str))=false:=by decide):PE X (.Name x pos) (c7 i):=by
 intro pins s σ H Q I h
 obtain ⟨v,e,h⟩:=h
 obtain ⟨m,hn,hl⟩:=I.loc
 obtain ⟨u,r,l⟩:=hl i x v hN e hv
 have fin:EP X pins σ Q u s:=⟨v,H,I,r,h⟩
 rcases l with ⟨hk,hm⟩ | ⟨hk,c,hc,hcell⟩
 ·exact wpAny_Name (wpAny_loadName_local I.ok.kind hk hn hm fin) hd
 ·rcases hk with hk | hk
  ·exact wpAny_Name (wpAny_loadName_cell I.ok.kind hk hc hcell fin) hd
  ·exact wpAny_Name (wpAny_loadName_free I.ok.kind hk hc hcell fin hcd) hd
theorem ah {i j pos}:PE X (.Constant (.int i) j pos) (tC (.int i)):=fun _ _ _ H _ I h=>wpAny_Constant_int ⟨.int i,H,I.tok _,⟨_,rfl⟩,h⟩
theorem c9 {b j pos}:PE X (.Constant (.bool b) j pos) (tC (.bl b)):=fun _ _ _ H _ I h=>Constant_bool ⟨.bl b,H,I,rfl,h⟩
theorem iz {j pos}:PE X (.Constant .none j pos) (tC .non):=fun _ _ _ H _ I h=>Constant_none ⟨.non,H,I,rfl,h⟩
theorem cn {x j pos}:PE X (.Constant (.str x) j pos) (tC (.str x)):=fun _ _ _ H _ I h=>Calls.Constant_str ⟨.str x,H,I.tok _,⟨_,rfl⟩,h⟩
noncomputable def Gl (X:Cx)(x:Str):Prop:=X.env.kindOf x=some .globalImplicit
theorem eV {E:Value->Shared->Prop}{pins:List (Addr × Obj)}{s:Shared}{σ:St}{H:Hp}{x:Str}{u:Value}{pos:Pos}{Q:Value->Shared->Prop}(I:Inv X pins σ H s)(hg:Gl X x)(hm:X.mg x=some u)(h:Q u s)
 (hd:(x == ("__debug__":Str))=false:=by decide):wpAny (model X.prog X.w) X.A (eval (.Name x pos) X.env) Q E s :=
 Calls.Name_function_global I.ok.kind hg (Calls.loadGlobal_global (by rw [I.ok.glob]; exact I.mod.glob.keeps I.bk) hm h) hd
theorem du {E:Value->Shared->Prop}{pins:List (Addr × Obj)}{s:Shared}{σ:St}{H:Hp}{x:Str}{u:Value}{pos:Pos}{Q:Value->Shared->Prop}(I:Inv X pins σ H s)(hg:Gl X x)(hm:X.mg x=none)(hv:bootBuiltins x=some u)(h:Q u s)
 (hn:x ≠ "__name__":=by decide)(hd:(x == ("__debug__":Str))=false:=by decide):wpAny (model X.prog X.w) X.A (eval (.Name x pos) X.env) Q E s:=by
 obtain ⟨mb,h1,h2⟩:=I.mod.blt
 exact Calls.Name_function_global I.ok.kind hg (Calls.loadGlobal_builtin (by rw [I.ok.glob]; exact I.mod.glob.keeps I.bk) hm (by rw [I.ok.blt]; exact h1.keeps I.bk) ((h2 x hn).trans hv) h) hd
theorem di {x:Str}{v:V}{u:Value}{pos:Pos}(hg:Gl X x)(hm:X.mg x=some u)(r:aB v u)(hd:(x == ("__debug__":Str))=false:=by decide):PE X (.Name x pos) (tC v):=
 fun _ _ _ H _ I h=>eV I hg hm ⟨v,H,I,r,h⟩ hd
theorem ck {x:Str}{v:V}{u:Value}{pos:Pos}(hg:Gl X x)(hm:X.mg x=none)(hv:bootBuiltins x=some u)(r:aB v u)(hn:x ≠ "__name__":=by decide)(hd:(x == ("__debug__":Str))=false:=by decide):PE X (.Name x pos) (tC v):=
 fun _ _ _ H _ I h=>du I hg hm hv ⟨v,H,I,r,h⟩ hn hd
variable {a b:Expr}{ta tb:TE}{pos:Pos}
noncomputable def PC (X:Cx)(op:CmpOp)(a b:Expr)(t:TE):Prop :=
 ∀ (pins:List (Addr × Obj))(s:Shared)(σ:St)(H:Hp)(Q:VK),Inv X pins σ H s->t σ H Q →
   wpAny (model X.prog X.w) X.A (eval a X.env) (fun v s₁=>wpAny (model X.prog X.w) X.A (eval b X.env) (fun u s₂=>wpAny (model X.prog X.w) X.A (compareOp op v u) (EP X pins σ Q) X.xe s₂) X.xe s₁) X.xe s
theorem wD (b:Expr){op:CmpOp}(h:op ≠ .In)(h2:op ≠ .NotIn):behindInMarks op b=false:=by
 have e1:(op == CmpOp.In)=false:=by cases op <;> first | rfl | exact absurd rfl h
 have e2:(op == CmpOp.NotIn)=false:=by cases op <;> first | rfl | exact absurd rfl h2
 cases b <;> simp [behindInMarks,e1,e2]
noncomputable def BO (ta:TE):TE:=fun σ H Q=>ta σ H fun x H1=>Q (.bl (decide (x = .non))) H1
theorem aB.none_iff {x:V}{v:Value}(r:aB x v):(v == Value.none)=decide (x = .non):=by
 cases x with
 | non=>cases r; rfl
 | bl _=>cases r; rfl
 | int _=>obtain ⟨t,rfl⟩:=r; rfl
 | str _=>obtain ⟨t,rfl⟩:=r; rfl
 | byt _=>obtain ⟨t,rfl⟩:=r; rfl
 | flt _=>obtain ⟨t,rfl⟩:=r; rfl
 | ref _=>cases r; rfl
 | ty _=>cases r; rfl
theorem zR {j pos'}(ha:PE X a ta):PC X .Is a (.Constant .none j pos') (BO ta):=by
 intro pins s σ H Q I h
 refine bF (ha pins s σ H _ I h) fun v s1 ⟨x,H1,I1,r1,q1⟩=>?_
 exact Constant_none (is_none_gen ⟨.bl _,H1,I1,by rw [r1.none_iff]; rfl,q1⟩)
noncomputable def tB (t:TE):TT:=fun σ H Q=>t σ H fun x H1=>∃ c,x = .bl c∧Q c H1
theorem vZ {op:CmpOp}{t:TE}(h:PC X op a b t)(h1:behindInMarks op b=false:=by first | exact wD _ (by decide) (by decide) | rfl):PT X (.Compare a [op] [b] pos) (tB t):=by
 intro pins s σ H Q I hw
 refine wpAny_isTrue_Compare1 (bF (h pins s σ H _ I hw) fun v s1 h1=>bF h1 fun u s2 h2=>bF h2 fun c s3 ⟨x,H1,I1,r1,q1⟩=>?_) h1
 obtain ⟨d,rfl,q⟩:=q1
 cases r1
 exact wpAny_truthy_bool ⟨H1,I1,q⟩
theorem bw {e:Expr}{t:TE}(h:PE X e t)(he:∀ cB,isTrue e X.env cB=(do let v ← cB; standAt e.pos; holding [v] (truthy v)):=by intro _; rfl):PT X e (tB t):=by
 intro pins s σ H Q I hw
 refine isTrue_plain (bF (h pins s σ H _ I hw) fun v s1 ⟨x,H1,I1,r1,q1⟩=>?_) (he _)
 obtain ⟨d,rfl,q⟩:=q1
 cases r1
 exact wpAny_truthy_bool ⟨H1,I1,q⟩
variable {tA tB':TT}{rest:List Expr}
noncomputable def BR (t u:TT):TT:=fun σ H Q=>t σ H fun c H1=>if c=true then u σ H1 Q else Q false H1
noncomputable def CU (t u:TT):TT:=fun σ H Q=>t σ H fun c H1=>if c=true then Q true H1 else u σ H1 Q
noncomputable def Cc (t:TT):TT:=fun σ H Q=>t σ H fun c H1=>Q (!c) H1
theorem r6 (ha:PT X a tA):PW X (.BoolOp .And [a] pos) tA:=by
 intro wh pins s σ H Q I h
 refine isTrue_and (bF (ha pins s σ H Q I h) fun c s1 e=>?_)
 cases c with
 | true=>exact isTrue_and_nil e
 | false=>exact e
theorem cN (ha:PT X a tA):PW X (.BoolOp .Or [a] pos) tA:=by
 intro wh pins s σ H Q I h
 refine isTrue_or (bF (ha pins s σ H Q I h) fun c s1 e=>?_)
 cases c with
 | false=>exact isTrue_or_nil e
 | true=>exact e
theorem vk (ha:PT X a tA)(hb:PW X (.BoolOp .And (b :: rest) pos) tB'):PW X (.BoolOp .And (a :: b :: rest) pos) (BR tA tB'):=by
 intro wh pins s σ H Q I h
 refine isTrue_and (bF (ha pins s σ H _ I h) fun c s1 ⟨H1,I1,q1⟩=>?_)
 cases c with
 | true=>exact hb wh pins s1 σ H1 Q I1 q1
 | false=>exact ⟨H1,I1,q1⟩
theorem dQ (ha:PT X a tA)(hb:PW X (.BoolOp .Or (b :: rest) pos) tB'):PW X (.BoolOp .Or (a :: b :: rest) pos) (CU tA tB'):=by
 intro wh pins s σ H Q I h
 refine isTrue_or (bF (ha pins s σ H _ I h) fun c s1 ⟨H1,I1,q1⟩=>?_)
 cases c with
 | true=>exact ⟨H1,I1,q1⟩
 | false=>exact hb wh pins s1 σ H1 Q I1 q1
theorem bY (ha:PT X a tA):PT X (.UnaryOp .Not a pos) (Cc tA):=by
 intro pins s σ H Q I h
 exact isTrue_not (ha pins s σ H (fun c H1=>Q (!c) H1) I h)
noncomputable def Bn (ta tb:TE):TE:=fun σ H Q=>ta σ H fun x H1=>∃ c,x = .bl c∧if c=true then tb σ H1 Q else Q (.bl false) H1
noncomputable def Br (ta:TE):TE:=fun σ H Q=>ta σ H fun x H1=>∃ c,x = .bl c∧Q (.bl (!c)) H1
theorem eO {op}{t:TE}(h:PE X a t):PE X (.BoolOp op [a] pos) t:=fun pins s σ H Q I hw=>BoolOp_one (h pins s σ H Q I hw)
theorem dL (ha:PE X a ta)(hb:PE X (.BoolOp .And (b :: rest) pos) tb):PE X (.BoolOp .And (a :: b :: rest) pos) (Bn ta tb):=by
 intro pins s σ H Q I h
 refine BoolOp_and (bF (ha pins s σ H _ I h) fun v s1 ⟨x,H1,I1,r1,q1⟩=>?_)
 obtain ⟨c,rfl,q1⟩:=q1
 cases r1
 refine wpAny_truthy_bool ?_
 cases c with
 | true=>exact hb pins s1 σ H1 Q I1 q1
 | false=>exact ⟨.bl false,H1,I1,rfl,q1⟩
theorem v3 (ha:PE X a ta):PE X (.UnaryOp .Not a pos) (Br ta):=by
 intro pins s σ H Q I h
 refine UnaryOp_ (bF (ha pins s σ H _ I h) fun v s1 ⟨x,H1,I1,r1,q1⟩=>?_)
 obtain ⟨c,rfl,q1⟩:=q1
 cases r1
 exact not_of (wpAny_truthy_bool ⟨.bl (!c),H1,I1,rfl,q1⟩)
end
noncomputable def aO (K:PySem.W.Frag)(H:Hp)(a:Addr)(xs:List V):Prop :=
 Rd H a (.lst xs) ∨
  ∃ (o:Obj)(its:Array Value)(n:Nat),K.lookup a=some o∧o.cls = .type "list"∧o.dict=none∧o.data = .seq its n∧its.size≤sizeLine∧aJ xs its.toList
noncomputable def bc (K:PySem.W.Frag)(H:Hp)(a:Addr)(xs:List V):Prop :=
 Rd H a (.tup xs) ∨
  ∃ (o:Obj)(its:Array Value)(n:Nat),K.lookup a=some o∧o.cls = .type "tuple"∧o.data = .seq its n∧its.size≤sizeLine∧aJ xs its.toList
noncomputable def Ck:Value->Option V
 | .none=>some .non
 | .bool b=>some (.bl b)
 | .int i _=>some (.int i)
 | .str x _=>some (.str x)
 | .bytes b _=>some (.byt b)
 | .float b _=>some (.flt b)
 | .ref a=>some (.ref a)
 | .type n=>some (.ty n)
 | _=>none
theorem aB.abs {x:V}{u:Value}(r:aB x u):Ck u=some x:=by
 cases x with
 | non=>cases r; rfl
 | bl _=>cases r; rfl
 | int _=>obtain ⟨t,rfl⟩:=r; rfl
 | str _=>obtain ⟨t,rfl⟩:=r; rfl
 | byt _=>obtain ⟨t,rfl⟩:=r; rfl
 | flt _=>obtain ⟨t,rfl⟩:=r; rfl
 | ref _=>cases r; rfl
 | ty _=>cases r; rfl
theorem aB.inj {x y:V}{u:Value}(r:aB x u)(q:aB y u):x=y:=Option.some.inj (r.abs.symm.trans q.abs)
theorem aJ.inj:∀ {xs ys:List V}{us:List Value},aJ xs us->aJ ys us->xs=ys
 | _,_,_,.nil,.nil=>rfl
 | _,_,_,.cons r t,.cons r' t'=>by rw [r.inj r',aJ.inj t t']
section
variable {X:Cx}{pins:List (Addr × Obj)}{σ:St}{H:Hp}{s:Shared}{a:Addr}{xs ys:List V}
theorem aO.of {K:PySem.W.Frag}(h:H a=some (.lst xs)):aO K H a xs:=.inl (.inl h)
theorem bc.of {K:PySem.W.Frag}(h:H a=some (.tup xs)):bc K H a xs:=.inl (.inl h)
theorem Inv.list (I:Inv X pins σ H s)(h:aO X.K H a xs):∃ its:List Value,aJ xs its∧PlainL s.heap a its.toArray∧xs.length≤sizeLine:=by
 rcases h with h | ⟨o,its,n,hk,hc,hd,hs,hz,r⟩
 ·obtain ⟨z,its,n,r,e⟩:=h.ok I.hok
  exact ⟨its,r,⟨_,n,e,rfl,rfl,rfl⟩,z⟩
 ·refine ⟨its.toList,r,⟨o,n,I.kIn a o hk,hc,hd,by simpa using hs⟩,?_⟩
  have e:=r.length
  simp only [Array.length_toList] at e
  omega
theorem Inv.tuple (I:Inv X pins σ H s)(h:bc X.K H a xs):∃ its:List Value,aJ xs its∧IsTup s.heap a its.toArray∧xs.length≤sizeLine:=by
 rcases h with h | ⟨o,its,n,hk,hc,hs,hz,r⟩
 ·obtain ⟨z,its,r,p⟩:=h.ok I.hok
  exact ⟨its,r,p,z⟩
 ·refine ⟨its.toList,r,⟨o,I.kIn a o hk,hc,n,by simpa using hs⟩,?_⟩
  have e:=r.length
  simp only [Array.length_toList] at e
  omega
theorem Inv.list_inj (I:Inv X pins σ H s)(h:aO X.K H a xs)(h':aO X.K H a ys):xs=ys:=by
 obtain ⟨its,r,⟨o,n,e,_,_,d⟩,_⟩:=I.list h
 obtain ⟨its',r',⟨o',n',e',_,_,d'⟩,_⟩:=I.list h'
 rw [e] at e'; cases e'
 rw [d] at d'
 injection d' with d1 _
 have:its=its':=by simpa using congrArg Array.toList d1
 subst this
 exact r.inj r'
theorem Inv.tuple_inj (I:Inv X pins σ H s)(h:bc X.K H a xs)(h':bc X.K H a ys):xs=ys:=by
 obtain ⟨its,r,⟨o,e,_,n,d⟩,_⟩:=I.tuple h
 obtain ⟨its',r',⟨o',e',_,n',d'⟩,_⟩:=I.tuple h'
 rw [e] at e'; cases e'
 rw [d] at d'
 injection d' with d1 _
 have:its=its':=by simpa using congrArg Array.toList d1
 subst this
 exact r.inj r'
end
noncomputable abbrev Cx.wish (X:Cx)(E:Value->Shared->Prop):Cx:={ X with xe:=E }
noncomputable abbrev Cx.nox (X:Cx):Cx:=X.wish fun _ _=>False
theorem Cx.Ok.wish {X:Cx}(ok:X.Ok)(E:Value->Shared->Prop):(X.wish E).Ok :=
 ⟨ok.mod,ok.kind,ok.glob,ok.blt,ok.above,ok.inj,ok.has,ok.cab,ok.hd,ok.frames,ok.stk,ok.exf,ok.bs,ok.bsz,ok.noex,ok.exfs,ok.funs,ok.frf⟩
theorem Cx.Ok.unwish {X:Cx}{E:Value->Shared->Prop}(ok:(X.wish E).Ok):X.Ok :=
 ⟨ok.mod,ok.kind,ok.glob,ok.blt,ok.above,ok.inj,ok.has,ok.cab,ok.hd,ok.frames,ok.stk,ok.exf,ok.bs,ok.bsz,ok.noex,ok.exfs,ok.funs,ok.frf⟩
section
variable {X:Cx}{pins:List (Addr × Obj)}{σ:St}{H:Hp}{s:Shared}{E:Value->Shared->Prop}
theorem Inv.wish (I:Inv X pins σ H s)(E:Value->Shared->Prop):Inv (X.wish E) pins σ H s:=⟨I.ok.wish E,I.os,I.bare,I.base,I.loc,I.cell,I.free,I.freeC,I.pin,I.hok,I.len⟩
theorem Inv.unwish (I:Inv (X.wish E) pins σ H s):Inv X pins σ H s:=⟨I.ok.unwish,I.os,I.bare,I.base,I.loc,I.cell,I.free,I.freeC,I.pin,I.hok,I.len⟩
theorem SP.unwish {D:Ends}{f:Flow}{s':Shared}(h:SP (X.wish E) pins D f s'):SP X pins D f s':=by
 cases f with
 | next=>obtain ⟨σ',H',I,q⟩:=h; exact ⟨σ',H',I.unwish,q⟩
 | brk=>obtain ⟨σ',H',I,q⟩:=h; exact ⟨σ',H',I.unwish,q⟩
 | cont=>obtain ⟨σ',H',I,q⟩:=h; exact ⟨σ',H',I.unwish,q⟩
 | ret u=>obtain ⟨v,σ',H',I,r,q⟩:=h; exact ⟨v,σ',H',I.unwish,r,q⟩
theorem ja.nox {st:List Stmt}{t:TS}(h:ja X.nox st t):ja X st t:=fun pins s σ H D I hw =>
 wpAny_mono (h pins s σ H D (I.wish _) hw) (fun _ _ q=>q.unwish) fun _ _ z=>False.elim z
end
section
variable {X:Cx}{st:Stmt}{rest:List Stmt}{t u:TS}{e:Expr}{te:TE}{pos:Pos}
noncomputable def tNext:TS:=fun D σ H=>D.nx σ H
noncomputable def AW (t u:TS):TS:=fun D σ H=>t { D with nx:=u D } σ H
theorem aC:ja X [] tNext:=fun _ _ σ H _ I h=>wpAny_execs_nil ⟨σ,H,I,h⟩
theorem ai (h1:PS X st t)(h2:ja X rest u):ja X (st :: rest) (AW t u):=by
 intro pins s σ H D I h
 refine wpAny_execs_cons (bF (h1 pins s σ H { D with nx:=u D } I h) fun f s1 q=>?_)
 cases f with
 | next =>
   obtain ⟨σ',H',I',q⟩:=q
   exact h2 pins s1 σ' H' D I' q
 | ret v=>exact q
 | brk=>exact q
 | cont=>exact q
theorem am (h1:PS X st t):ja X [st] t:=by
 intro pins s σ H D I h
 refine wpAny_execs_cons (bF (h1 pins s σ H D I h) fun f s1 q=>?_)
 cases f with
 | next=>exact wpAny_execs_nil q
 | ret v=>exact q
 | brk=>exact q
 | cont=>exact q
theorem Inv.quiet {pins:List (Addr × Obj)}{σ:St}{H:Hp}{s:Shared}(I:Inv X pins σ H s):interactive X.env=false:=by simp [interactive,I.ok.kind]
noncomputable def Bc (te:TE):TS:=fun D σ H=>te σ H fun _ H1=>D.nx σ H1
theorem ny (he:PE X e te)(hs:swapsWith e none pos.line X.env=pure false:=by rfl):PS X (.Expr e pos) (Bc te):=by
 intro pins s σ H D I h
 exact wpAny_Expr_any (bF (he pins s σ H _ I h) fun v s1 ⟨x,H1,I1,r1,q1⟩=>⟨σ,H1,I1,q1⟩) I.quiet hs
noncomputable def B7 (te:TE):TS:=fun D σ H=>te σ H D.rt
theorem av (he:PE X e te):PS X (.Return (some e) pos) (B7 te):=by
 intro pins s σ H D I h
 exact wpAny_Return_some (bF (he pins s σ H _ I h) fun v s1 ⟨x,H1,I1,r1,q1⟩=>⟨x,σ,H1,I1,r1,q1⟩)
noncomputable def BV (c:TT)(t u:TS):TS:=fun D σ H=>c σ H fun b H1=>if b=true then t D σ H1 else u D σ H1
theorem a7 {c:Expr}{a b:List Stmt}{tc:TT}(hc:PT X c tc)(ha:ja X a t)(hb:ja X b u):PS X (.If c a b pos) (BV tc t u):=by
 intro pins s σ H D I h
 refine wpAny_If (bF (hc pins s σ H _ I h) fun d s1 ⟨H1,I1,q1⟩=>?_)
 cases d with
 | true=>exact ha pins s1 σ H1 D I1 q1
 | false=>exact hb pins s1 σ H1 D I1 q1
noncomputable def tNever:TS:=fun _ _ _=>False
theorem pk:PS X st tNever:=fun _ _ _ _ _ _ h=>h.elim
theorem tO {sts:List Stmt}:ja X sts tNever:=fun _ _ _ _ _ _ h=>h.elim
end
noncomputable abbrev TG:=V->St->Hp->(St->Hp->Prop)->Prop
noncomputable abbrev TGs:=List V->St->Hp->(St->Hp->Prop)->Prop
noncomputable def PG (X:Cx)(target:Expr)(t:TG):Prop :=
 ∀ (pins:List (Addr × Obj))(s:Shared)(σ:St)(H:Hp)(v:V)(u:Value)(Q:St->Hp->Prop),Inv X pins σ H s->aB v u->t v σ H Q →
   wpAny (model X.prog X.w) X.A (assign target X.env u) (fun _ s'=>∃ σ' H',Inv X pins σ' H' s'∧Q σ' H') X.xe s
noncomputable def BJ (X:Cx)(ts:List Expr)(t:TGs):Prop :=
 ∀ (pins:List (Addr × Obj))(s:Shared)(σ:St)(H:Hp)(vs:List V)(us:List Value)(Q:St->Hp->Prop),Inv X pins σ H s->aJ vs us->t vs σ H Q →
   wpAny (model X.prog X.w) X.A (assignInOrder ((assignEach ts X.env).map (·.2)) us) (fun _ s'=>∃ σ' H',Inv X pins σ' H' s'∧Q σ' H') X.xe s
noncomputable abbrev zn:=V->V->V->Hp->(Hp->Prop)->Prop
noncomputable def A0 (X:Cx)(t:zn):Prop :=
 ∀ (pins:List (Addr × Obj))(s:Shared)(σ:St)(H:Hp)(o i v:V)(ov iv u:Value)(Q:Hp->Prop),Inv X pins σ H s->aB o ov->aB i iv->aB v u->t o i v H Q →
   wpAny (model X.prog X.w) X.A (setItem ov iv u) (fun _ s'=>∃ H',Inv X pins σ H' s'∧Q H') X.xe s
section
variable {X:Cx}{pos:Pos}
noncomputable def bD (i:Nat):TG:=fun v σ H Q=>Q (σ.set i (some v)) H
theorem aE {i:Nat}{x:Str}(hN:X.N.Nodup)(hi:X.N[i]?=some x)(hx:Bo X.env.scope x)(hf:X.fn x=true∨X.env.scope.names.lookup x=some .local:=by first | exact .inl rfl | exact .inr rfl | assumption):PG X (.Name x pos) (bD i):=by
 intro pins s σ H v u Q I r h
 exact wpAny_assign_Name (fP I hN hi hx r (fun s' I'=>⟨_,H,I',h⟩) hf)
noncomputable def gNil:TGs:=fun vs σ H Q=>vs=[]∧Q σ H
noncomputable def cP (t:TG)(u:TGs):TGs:=fun vs σ H Q=>∃ v r,vs=v :: r∧t v σ H fun σ' H'=>u r σ' H' Q
theorem cw:BJ X [] gNil:=by
 intro pins s σ H vs us Q I r h
 obtain ⟨e,h⟩:=h
 subst e
 cases r
 exact assignInOrder_nil ⟨σ,H,I,h⟩
theorem aL {e:Expr}{es:List Expr}{t:TG}{u:TGs}(h1:PG X e t)(h2:BJ X es u)
 (hs:(assignEach (e :: es) X.env).map (·.2)=assign e X.env :: (assignEach es X.env).map (·.2):=by rfl):BJ X (e :: es) (cP t u):=by
 intro pins s σ H vs us Q I r h
 obtain ⟨v,vr,e1,h⟩:=h
 subst e1
 cases r with
 | cons r rr =>
   rw [hs]
   refine assignInOrder_cons (bF (h1 pins s σ H _ _ _ I r h) fun _ s1 ⟨σ1,H1,I1,q1⟩=>?_)
   exact h2 pins s1 σ1 H1 _ _ Q I1 rr q1
noncomputable def lz (K:PySem.W.Frag)(n:Nat)(t:TGs):TG:=fun v σ H Q=>∃ a xs,v = .ref a∧bc K H a xs∧xs.length=n∧t xs σ H Q
theorem cV {es:List Expr}{k:Nat}{t:TGs}{n:Nat}(hc:X.calm=true)(h:BJ X es t)
 (hn:(assignEach es X.env).length=n:=by rfl)(hst:(assignEach es X.env).findIdx? (·.1)=none:=by rfl):PG X (.Tuple es k pos) (lz X.K n t):=by
 intro pins s σ H v u Q I r hw
 obtain ⟨a,xs,e1,hq,hl,hw⟩:=hw
 subst e1
 cases r
 obtain ⟨its,rv,ht,hz⟩:=I.tuple hq
 refine assign_Tuple_tuple (I.ok.hd hc) ht (by simp [hn,← hl,rv.length]) hst fun h' hx=>?_
 have I1:Inv X pins σ H { s with heap:=h' }:=I.kept (t':=s.toks) fun b o e=>hx b o (Nat.ne_of_lt (Heap.lt_size e)) e
 exact h pins _ σ H xs _ Q I1 (by simpa using rv) hw
noncomputable def Cs (to ti:TE)(t:zn):TG:=fun v σ H Q=>to σ H fun o H1=>ti σ H1 fun i H2=>t o i v H2 fun H3=>Q σ H3
theorem pV {o i:Expr}{to ti:TE}{t:zn}(ho:PE X o to)(hi:PE X i ti)(hs:A0 X t)
 (ha:∀ v,assign (.Subscript o i pos) X.env v=(do
  let ov ← holding [v] (eval o X.env)
  let iv ← holding [v,ov] (eval i X.env)
  standAt pos
  holding [v,ov,iv] (setItem ov iv v)
  release [v,ov,iv] []):=by intro _; rfl):PG X (.Subscript o i pos) (Cs to ti t):=by
 intro pins s σ H v u Q I r h
 rw [ha]
 refine wpAny_bind (wpAny_holding (bF (ho pins s σ H _ I h) fun ov s1 ⟨x,H1,I1,r1,q1⟩=>?_))
 refine wpAny_bind (wpAny_holding (bF (hi pins s1 σ H1 _ I1 q1) fun iv s2 ⟨y,H2,I2,r2,q2⟩=>?_))
 refine wpAny_bind (wpAny_standAt (wpAny_bind (wpAny_holding (bF (hs pins s2 σ H2 x y v ov iv u _ I2 r1 r2 r q2) fun _ s3 ⟨H3,I3,q3⟩=>?_))))
 exact wpAny_release ⟨σ,H3,I3,q3⟩
noncomputable def yz (te:TE)(g:TG):TS:=fun D σ H=>te σ H fun x H1=>g x σ H1 D.nx
theorem m5 {tg e:Expr}{te:TE}{g:TG}(he:PE X e te)(hg:PG X tg g)(hs:swapsWithSole [tg] e pos.line X.env=pure false:=by rfl)(hw:swappedStores [tg] e X.env=pure none:=by rfl)
 (h1:(assignEach [tg] X.env).map (·.2)=[assign tg X.env]:=by rfl):PS X (.Assign [tg] e pos) (yz te g):=by
 intro pins s σ H D I h
 refine wpAny_Assign_stores (bF (he pins s σ H _ I h) fun v s1 ⟨x,H1,I1,r1,q1⟩=>?_) hs hw
 rw [h1]
 exact bF (hg pins s1 σ H1 x v _ I1 r1 q1) fun _ s2 q=>q
theorem aK {i:Nat}{x:Str}{e:Expr}{te:TE}{pos':Pos}(hN:X.N.Nodup)(hi:X.N[i]?=some x)(hx:Bo X.env.scope x)(he:PE X e te)(hs:swapsWith e (some (.Name x pos')) pos.line X.env=pure false:=by rfl)(hf:X.fn x=true∨X.env.scope.names.lookup x=some .local:=by first | exact .inl rfl | exact .inr rfl | assumption):
 PS X (.Assign [.Name x pos'] e pos) (yz te (bD i)):=by
 intro pins s σ H D I h
 refine wpAny_Assign_Name (bF (he pins s σ H _ I h) fun v s1 ⟨y,H1,I1,r1,q1⟩=>?_) hs
 exact fP I1 hN hi hx r1 (fun s2 I2=>⟨_,H1,I2,q1⟩) hf
noncomputable def BZ (i j:Nat)(ta:TA):TS:=fun D σ H=>ta σ H fun vs H1=>∃ v w,vs=[v,w]∧D.nx ((σ.set i (some v)).set j (some w)) H1
theorem iR {i j:Nat}{x y:Str}{a b:Expr}{ta:TA}{px py pt:Pos} {kt k2 pt2}(hc:X.calm=true)(hN:X.N.Nodup)(hi:X.N[i]?=some x)(hj:X.N[j]?=some y)(hij:i≠j)
 (hx:X.env.scope.names.lookup x=some .local)(hy:X.env.scope.names.lookup y=some .local)(ha:PA X [a,b] ta)
 (hw:swappedStores [.Tuple [.Name x px,.Name y py] kt pt] (.Tuple [a,b] k2 pt2) X.env=pure (some [x,y]))
 (hs:swapsWithSole [.Tuple [.Name x px,.Name y py] kt pt] (.Tuple [a,b] k2 pt2) pos.line X.env=pure false:=by rfl):
 PS X (.Assign [.Tuple [.Name x px,.Name y py] kt pt] (.Tuple [a,b] k2 pt2) pos) (BZ i j ta):=by
 intro pins s σ H D I h
 rw [exec_Assign_arm]
 refine wpAny_bind (wpAny_standAt ?_)
 rw [hs]
 refine wpAny_bind (wpAny_pure ?_)
 rw [if_neg (by decide)]
 refine wpAny_bind (Tuple_ (bF (ha _ pins s σ H _ I h) fun us s1 ⟨vs,H1,I1,r1,q1⟩=>?_))
 obtain ⟨v,w,e1,q1⟩:=q1
 subst e1
 obtain ⟨u1,u2,rfl,rv,rw'⟩:∃ u1 u2,us=[u1,u2]∧aB v u1∧aB w u2:=by
  cases r1 with
  | cons p q =>
    cases q with
    | cons p' q' =>
      cases q'
      exact ⟨_,_,rfl,p,p'⟩
 refine wpAny_newObj_type ?_ (by show 2≤sizeLine; decide)
 have I2:Inv X pins σ H1 { s1 with heap:=s1.heap.push { cls:=.type "tuple",data:=.seq [u1,u2].toArray } }:=I1.kept (t':=s1.toks) fun b o e=>Heap.get?_push_of_some _ e
 rw [hw]
 refine wpAny_bind (wpAny_pure ?_)
 show wpAny (model X.prog X.w) X.A (do rule "assign.swapped-stores"; let items ← unpackItems (.ref s1.heap.objs.size) 2 none; assignInOrder [fun v=>bindName X.env y v,fun v=>bindName X.env x v] items.reverse; pure Flow.next) _ _ _
 refine wpAny_bind (wpAny_rule (wpAny_bind (unpackItems_tuple (items:=#[u1,u2]) (I.ok.hd hc) (IsTup.new s1.heap _) fun h' hx'=>?_)))
 have I3:=I2.kept (h':=h') (t':=s1.toks) fun b o e=>hx' b o (Nat.ne_of_lt (Heap.lt_size e)) e
 show wpAny _ _ (assignInOrder [fun v=>bindName X.env y v,fun v=>bindName X.env x v] [u2,u1] >>= fun _=>pure Flow.next) _ _ _
 refine wpAny_bind (assignInOrder_cons (wpAny_bindName (fP I3 hN hj (.inl hy) rw' (fun s2 I4=>?_) (.inr hy))))
 refine assignInOrder_cons (wpAny_bindName (fP I4 hN hi (.inl hx) rv (fun s3 I5=>assignInOrder_nil (wpAny_pure ?_)) (.inr hx)))
 rw [List.set_comm _ _ (Ne.symm hij)] at I5
 exact ⟨_,H1,I5,q1⟩
end
section
variable {X:Cx}{pos:Pos}
noncomputable def Ax (c:TT)(tb:TS):TS:=fun D σ H=>∃ W:Nat->St->Hp->Prop,(∃ m,W m σ H)∧∀ m σ H,W m σ H →
 c σ H fun b H1=>if b=true then ∃ N:St->Hp->Prop,(∀ σ' H',N σ' H'->∃ m',m' < m∧W m' σ' H')∧tb { D with nx:=N,ct:=N,bk:=D.nx } σ H1 else D.nx σ H1
theorem j8 {c:Expr}{body:List Stmt}{tc:TT}{tb:TS}(hp:PassesOwn (model X.prog X.w) X.A X.env X.xe)(hc:PT X c tc)(hb:ja X body tb):PS X (.While c body [] pos) (Ax tc tb):=by
 intro pins s σ H D I h
 obtain ⟨W,⟨m0,w0⟩,turn⟩:=h
 refine wpAny_While (codeAny_whileLoop (fun n s'=>∃ σ' H',Inv X pins σ' H' s'∧W n σ' H') ?_ m0 ⟨σ,H,I,w0⟩)
 rintro n s1 ⟨σ1,H1,I1,w1⟩
 refine wpAny_passesOwn hp (bF (hc pins s1 σ1 H1 _ I1 (turn n σ1 H1 w1)) fun b s2 ⟨H2,I2,q2⟩=>?_)
 cases b with
 | true =>
   obtain ⟨N,hN,q2⟩:=q2
   rw [if_pos rfl]
   refine wpAny_passesOwn hp (bF (hb pins s2 σ1 H2 _ I2 q2) fun f s3 q3=>?_)
   cases f with
   | next =>
     obtain ⟨σ3,H3,I3,n3⟩:=q3
     obtain ⟨m',hm,w3⟩:=hN σ3 H3 n3
     exact ⟨m',hm,σ3,H3,I3,w3⟩
   | cont =>
     obtain ⟨σ3,H3,I3,n3⟩:=q3
     obtain ⟨m',hm,w3⟩:=hN σ3 H3 n3
     exact ⟨m',hm,σ3,H3,I3,w3⟩
   | brk=>exact q3
   | ret v=>exact q3
 | false =>
   rw [if_neg Bool.false_ne_true]
   exact wpAny_execs_nil ⟨σ1,H2,I2,q2⟩
end
structure It where
 go:Nat->Hp->Prop
 yld:Nat->Hp->V->Hp->Prop
 stop:Nat->Hp->Prop
noncomputable def c6 (X:Cx)(pins:List (Addr × Obj))(H:Hp)(b:Addr):Prop :=
 H b=none∧b≠X.env.locals∧b ∉ X.fs∧(b∈X.ex∨X.s₀.heap.objs.size≤b)∧(∀ x c,X.env.cells.lookup x=some c->c≠b)∧∀ p∈X.pn++pins,p.1≠b
theorem Inv.fpOk {X:Cx}{pins:List (Addr × Obj)}{σ:St}{H H':Hp}{s:Shared}{b:Addr}(I:Inv X pins σ H s)(hb:s.heap.objs.size≤b)(hn:H' b=none):c6 X pins H' b:=by
 refine ⟨hn,Nat.ne_of_gt (Nat.lt_of_lt_of_le I.lt hb),I.nofs hb,.inr (Nat.le_trans I.sz hb),fun x c e z=>?_,fun p hp z=>?_⟩
 ·obtain ⟨v,q⟩:=I.cell x c e
  exact absurd (Nat.lt_of_lt_of_le q.lt (by rw [z]; exact hb)) (Nat.lt_irrefl _)
 ·exact absurd (Nat.lt_of_lt_of_le (Heap.lt_size (I.pin p hp).1) (by rw [z]; exact hb)) (Nat.lt_irrefl _)
structure Turn (P:Program)(w:World)(K:PySem.W.Frag)(tg:Expr)(J:It)(fp:List Addr)(it:Addr)(tn:Nat->Heap->Prop):Prop where
 mem:it∈fp
 obj:∀ i h,tn i h->∀ b∈fp,∃ o,h.get? b=some o∧∀ v,o.data ≠ .cell v
 keep:∀ i h h',tn i h->(∀ b∈fp,∀ o,h.get? b=some o->h'.get? b=some o)->tn i h'
 item:∀ (X:Cx),X.prog=P->X.w=w->X.K=K->X.calm=true->∀ (i:Nat)(pins:List (Addr × Obj))(s:Shared)(σ:St)(H:Hp)(E:Value->Shared->Prop),Inv X pins σ H s->(∀ b∈fp,c6 X pins H b)->tn i s.heap->J.go i H →
  wpAny (model P w) X.A (pyNext (.ref it)) (fun r s1=>∃ u,r=some u ∧
   wpAny (model P w) X.A (letOwnedTupleGo tg (.ref it) u) (fun _ s2=>∃ x H',Inv X pins σ H' s2∧aB x u∧J.yld i H x H'∧tn (i + 1) s2.heap∧∀ b∈fp,H' b=none) E s1) E s
 done:∀ (X:Cx),X.prog=P->X.w=w->X.K=K->X.calm=true->∀ (i:Nat)(pins:List (Addr × Obj))(s:Shared)(σ:St)(H:Hp)(E:Value->Shared->Prop),Inv X pins σ H s->(∀ b∈fp,c6 X pins H b)->tn i s.heap->J.stop i H →
  wpAny (model P w) X.A (pyNext (.ref it)) (fun r s1=>r=none∧Inv X pins σ H s1) E s
 self:∀ (A:Around)(i:Nat)(s:Shared)(Q:Value->Shared->Prop)(E:Value->Shared->Prop),tn i s.heap->Q (.ref it) s->wpAny (model P w) A (pyIter (.ref it)) Q E s
noncomputable abbrev TI:=St->Hp->(It->Hp->Prop)->Prop
noncomputable def CM (X:Cx)(pins:List (Addr × Obj))(σ:St)(tg:Expr)(R:It->Hp->Prop)(itv:Value)(s2:Shared):Prop :=
 ∃ (it:Addr)(fp:List Addr)(tn:Nat->Heap->Prop)(J:It)(H':Hp),itv = .ref it∧Inv X pins σ H' s2∧Turn X.prog X.w X.K tg J fp it tn∧tn 0 s2.heap∧(∀ b∈fp,c6 X pins H' b)∧R J H'
noncomputable def PI (X:Cx)(tg iter:Expr)(wi:TI):Prop :=
 ∀ (pins:List (Addr × Obj))(s:Shared)(σ:St)(H:Hp)(R:It->Hp->Prop),Inv X pins σ H s->wi σ H R →
   wpAny (model X.prog X.w) X.A (eval iter X.env) (fun v s1=>wpAny (model X.prog X.w) X.A (pyIter v) (CM X pins σ tg R) X.xe s1) X.xe s
theorem sK {M:Model}{A:Around}{E:Value->Shared->Prop}{s:Shared}{tg:Expr}{it:Addr}{u:Value}{o:Obj}{n:String}{vs:Array Value}{Q:Unit->Shared->Prop}(ho:s.heap.get? it=some o)(hc:o.cls = .type n)(hd:o.data = .fields vs)
 (hn:["enumerate","zip","dict_itemiterator","dict_reverseitemiterator","odict_iterator","itertools.zip_longest","itertools.pairwise"].contains n=false)(hQ:Q () s):wpAny M A (letOwnedTupleGo tg (.ref it) u) Q E s:=by
 unfold letOwnedTupleGo
 cases tg <;> first
  | exact wpAny_pure hQ
  | (cases u <;> first
   | exact wpAny_pure hQ
   | (refine wpAny_bind (wpAny_load ho ?_)
      rw [hc,hd]
      show wpAny M A (if (["enumerate","zip","dict_itemiterator","dict_reverseitemiterator","odict_iterator","itertools.zip_longest","itertools.pairwise"].contains n&&vs[0]? == some (rawInt _))=true then _ else _) Q E s
      rw [if_neg (by intro h; rw [hn,Bool.false_and] at h; cases h)]
      exact wpAny_pure hQ))
noncomputable def Ap (K:PySem.W.Frag)(a:Addr):It :=
 ⟨fun i H=>∃ xs x,aO K H a xs∧xs[i]?=some x,fun i H x H'=>H'=H∧∀ xs,aO K H a xs->xs[i]?=some x,fun i H=>∃ xs,aO K H a xs∧xs.length≤i⟩
noncomputable def CD (K:PySem.W.Frag)(a:Addr):It :=
 ⟨fun i H=>∃ xs x,bc K H a xs∧xs[i]?=some x,fun i H x H'=>H'=H∧∀ xs,bc K H a xs->xs[i]?=some x,fun i H=>∃ xs,bc K H a xs∧xs.length≤i⟩
noncomputable def zw (lo:Int)(n:Nat):It:=⟨fun i _=>i < n,fun i H x H'=>H'=H∧x = .int (lo + i),fun i _=>n≤i⟩
theorem t6 {P:Program}{w:World}{K:PySem.W.Frag}{tg:Expr}(a it:Addr):Turn P w K tg (Ap K a) [it] it (fun i h=>h.IsListIter it a i) where
 mem:=by simp
 obj:=fun i h st b hb=>by
  have e:b=it:=by simpa using hb
  subst e
  obtain ⟨o,e,c,d⟩:=st
  exact ⟨o,e,fun v z=>by rw [d] at z; cases z⟩
 keep:=fun i h h' st k=>st.at fun o e=>k it (by simp) o e
 item:=by
  intro X hP hw hK hc i pins s σ H E I hf st hg
  subst hP hw hK
  obtain ⟨xs,x,hq,hx⟩:=hg
  obtain ⟨its,rv,p,hz⟩:=I.list hq
  obtain ⟨u,hu,ru⟩:=rv.get hx
  obtain ⟨f0,f1,f2,f3,f4,f5⟩:=hf it (by simp)
  refine wpAny_pyNext_list_item st p.isList (x:=u) (by simpa using hu) fun h' st' sb=>?_
  have I1:Inv X pins σ H { s with heap:=h' }:=I.turned (t':=s.toks) (fun b o hb e=>(sb.2 b hb).trans e) f0 f1 f3 f4 f5
  obtain ⟨o,e,c,d⟩:=id st'
  exact ⟨u,rfl,sK (s:={ s with heap:=h' }) e c d (by decide) ⟨x,H,I1,ru,⟨rfl,fun ys hy=>by rw [I.list_inj hy hq]; exact hx⟩,st',fun b hb=>(hf b hb).1⟩⟩
 done:=by
  intro X hP hw hK hc i pins s σ H E I hf st hg
  subst hP hw hK
  obtain ⟨xs,hq,hx⟩:=hg
  obtain ⟨its,rv,p,hz⟩:=I.list hq
  obtain ⟨f0,f1,f2,f3,f4,f5⟩:=hf it (by simp)
  have hl:=rv.length
  exact wpAny_pyNext_list_end (I.ok.hd hc) st p.isList (by simp; omega) fun h' eb=>⟨rfl,I.turned (t':=s.toks) (fun b o hb e=>eb b o hb e) f0 f1 f3 f4 f5⟩
 self:=fun _ _ _ _ _ st h=>wpAny_pyIter_listiter st h
theorem qv {P:Program}{w:World}{K:PySem.W.Frag}{tg:Expr}(a it:Addr):Turn P w K tg (CD K a) [it] it (fun i h=>h.IsTupleIter it a i) where
 mem:=by simp
 obj:=fun i h st b hb=>by
  have e:b=it:=by simpa using hb
  subst e
  obtain ⟨o,e,c,d⟩:=st
  exact ⟨o,e,fun v z=>by rw [d] at z; cases z⟩
 keep:=fun i h h' st k=>st.at fun o e=>k it (by simp) o e
 item:=by
  intro X hP hw hK hc i pins s σ H E I hf st hg
  subst hP hw hK
  obtain ⟨xs,x,hq,hx⟩:=hg
  obtain ⟨its,rv,p,hz⟩:=I.tuple hq
  obtain ⟨u,hu,ru⟩:=rv.get hx
  obtain ⟨f0,f1,f2,f3,f4,f5⟩:=hf it (by simp)
  refine wpAny_pyNext_tuple_item st (show s.heap.IsTuple a its.toArray from p) (x:=u) (by simpa using hu) fun h' st' sb=>?_
  have I1:Inv X pins σ H { s with heap:=h' }:=I.turned (t':=s.toks) (fun b o hb e=>(sb.2 b hb).trans e) f0 f1 f3 f4 f5
  obtain ⟨o,e,c,d⟩:=id st'
  exact ⟨u,rfl,sK (s:={ s with heap:=h' }) e c d (by decide) ⟨x,H,I1,ru,⟨rfl,fun ys hy=>by rw [I.tuple_inj hy hq]; exact hx⟩,st',fun b hb=>(hf b hb).1⟩⟩
 done:=by
  intro X hP hw hK hc i pins s σ H E I hf st hg
  subst hP hw hK
  obtain ⟨xs,hq,hx⟩:=hg
  obtain ⟨its,rv,p,hz⟩:=I.tuple hq
  obtain ⟨f0,f1,f2,f3,f4,f5⟩:=hf it (by simp)
  have hl:=rv.length
  exact wpAny_pyNext_tuple_end (I.ok.hd hc) st (show s.heap.IsTuple a its.toArray from p) (by simp; omega) fun h' eb=>⟨rfl,I.turned (t':=s.toks) (fun b o hb e=>eb b o hb e) f0 f1 f3 f4 f5⟩
 self:=fun _ _ _ _ _ st h=>wpAny_pyIter_tupleiter st h
theorem qe {P:Program}{w:World}{K:PySem.W.Frag}{tg:Expr}(it:Addr)(lo:Int)(n:Nat):Turn P w K tg (zw lo n) [it] it (fun i h=>IsRangeIter h it (lo + (i:Nat) * 1) ((n:Int) - (i:Nat)) 1) where
 mem:=by simp
 obj:=fun i h st b hb=>by
  have e:b=it:=by simpa using hb
  subst e
  exact ⟨_,st,fun v z=>by
   have z':Data.fields _=Data.cell v:=z
   cases z'⟩
 keep:=fun i h h' st k=>k it (by simp) _ st
 item:=by
  intro X hP hw hK hc i pins s σ H E I hf st hg
  subst hP hw hK
  obtain ⟨f0,f1,f2,f3,f4,f5⟩:=hf it (by simp)
  have W:=Walks.range (prog:=X.prog) (w:=X.w) (I.ok.hd hc) it lo 1 n
  refine W.item i s _ _ hg st fun v h' tk hv st' kk=>?_
  obtain ⟨t,rfl⟩:=hv
  have I1:Inv X pins σ H { s with heap:=h',toks:=tk }:=I.turned (fun b o hb e=>kk b o (by simpa using hb) e) f0 f1 f3 f4 f5
  refine ⟨_,rfl,sK (s:={ s with heap:=h',toks:=tk }) (n:="range_iterator") st' rfl rfl (by decide) ⟨.int (lo + i),H,I1,⟨t,?_⟩,⟨rfl,rfl⟩,st',fun b hb=>(hf b hb).1⟩⟩
  rw [Int.mul_one]
 done:=by
  intro X hP hw hK hc i pins s σ H E I hf st hg
  subst hP hw hK
  obtain ⟨f0,f1,f2,f3,f4,f5⟩:=hf it (by simp)
  exact wpAny_pyNext_range_end (I.ok.hd hc) st (by have:n≤i:=hg; omega) fun h' eb=>⟨rfl,I.turned (t':=s.toks) (fun b o hb e=>eb b o hb e) f0 f1 f3 f4 f5⟩
 self:=fun _ _ _ _ _ st h=>wpAny_pyIter_rangeiter st h
section
variable {X:Cx}{tg:Expr}
noncomputable def Bg (K:PySem.W.Frag)(tl:TE):TI:=fun σ H R=>tl σ H fun x H1=>∃ a,x = .ref a∧(∃ xs,aO K H1 a xs)∧R (Ap K a) H1
noncomputable def ym (K:PySem.W.Frag)(tl:TE):TI:=fun σ H R=>tl σ H fun x H1=>∃ a,x = .ref a∧(∃ xs,bc K H1 a xs)∧R (CD K a) H1
theorem cK {l:Expr}{tl:TE}(hl:PE X l tl):PI X tg l (Bg X.K tl):=by
 intro pins s σ H R I h
 refine bF (hl pins s σ H _ I h) fun v s1 ⟨x,H1,I1,r1,q1⟩=>?_
 obtain ⟨a,e,⟨xs,hq⟩,q⟩:=q1
 subst e
 cases r1
 obtain ⟨its,rv,p,hz⟩:=I1.list hq
 refine wpAny_pyIter_list p.isList ?_
 refine ⟨s1.heap.objs.size,[s1.heap.objs.size],_,_,H1,rfl,I1.kept (t':=s1.toks) fun b o e=>Heap.get?_push_of_some _ e,t6 a _,⟨_,Heap.get?_push_size _ rfl,rfl,rfl⟩,fun b hb=>?_,q⟩
 have e:b=s1.heap.objs.size:=by simpa using hb
 subst e
 exact I1.fpOk (Nat.le_refl _) (I1.hok.fresh (Nat.le_refl _))
theorem iO {l:Expr}{tl:TE}(hl:PE X l tl):PI X tg l (ym X.K tl):=by
 intro pins s σ H R I h
 refine bF (hl pins s σ H _ I h) fun v s1 ⟨x,H1,I1,r1,q1⟩=>?_
 obtain ⟨a,e,⟨xs,hq⟩,q⟩:=q1
 subst e
 cases r1
 obtain ⟨its,rv,p,hz⟩:=I1.tuple hq
 refine wpAny_pyIter_tuple (show s1.heap.IsTuple a its.toArray from p) ?_
 refine ⟨s1.heap.objs.size,[s1.heap.objs.size],_,_,H1,rfl,I1.kept (t':=s1.toks) fun b o e=>Heap.get?_push_of_some _ e,qv a _,⟨_,Heap.get?_push_size _ rfl,rfl,rfl⟩,fun b hb=>?_,q⟩
 have e:b=s1.heap.objs.size:=by simpa using hb
 subst e
 exact I1.fpOk (Nat.le_refl _) (I1.hok.fresh (Nat.le_refl _))
theorem u3 {pins:List (Addr × Obj)}{σ:St}{H:Hp}{s:Shared}{R:It->Hp->Prop}{E:Value->Shared->Prop}{lo hi:Int}{t u v:Tok}{tk:Nat}(I:Inv X pins σ H s)(h1:-(2 ^ 62)≤lo)(h2:lo < 2 ^ 62)(h3:-(2 ^ 62)≤hi)(h4:hi < 2 ^ 62)
 (q:R (zw lo (hi - lo).toNat) H):wpAny (model X.prog X.w) X.A (pyIter (.ref s.heap.objs.size)) (CM X pins σ tg R) E { s with heap:=s.heap.push { cls:=.type "range",data:=.fields #[.int lo t,.int hi u,.int 1 v] },toks:=tk }:=by
 refine wpAny_pyIter_range (IsRange.new ..) (small_one h1 h2 h3 h4) ?_
 have I1:Inv X pins σ H { s with heap:=s.heap.push { cls:=.type "range",data:=.fields #[.int lo t,.int hi u,.int 1 v] },toks:=tk }:=I.kept fun b o e=>Heap.get?_push_of_some _ e
 refine ⟨(s.heap.push { cls:=.type "range",data:=.fields #[.int lo t,.int hi u,.int 1 v] }).objs.size,[(s.heap.push { cls:=.type "range",data:=.fields #[.int lo t,.int hi u,.int 1 v] }).objs.size],_,_,H,rfl,
  I1.kept (t':=tk) fun b o e=>Heap.get?_push_of_some _ e,qe _ lo (hi - lo).toNat,?_,fun b hb=>?_,q⟩
 ·have e1:lo + ((0:Nat):Int) * 1=lo:=by simp
  have e2:(((hi - lo).toNat:Nat):Int) - ((0:Nat):Int)=Builtin.Range.rangeSize lo hi 1:=by rw [rangeSize_one]; split <;> omega
  show IsRangeIter _ _ (lo + ((0:Nat):Int) * 1) ((((hi - lo).toNat:Nat):Int) - ((0:Nat):Int)) 1
  rw [e1,e2]
  exact Heap.get?_push_size _ rfl
 ·have e:b=(s.heap.push { cls:=.type "range",data:=.fields #[.int lo t,.int hi u,.int 1 v] }).objs.size:=by simpa using hb
  subst e
  exact I1.fpOk (Nat.le_refl _) (I1.hok.fresh (Nat.le_refl _))
noncomputable def A3 (ta:TA):TI:=fun σ H R=>ta σ H fun vs H1=>∃ j:Int,vs=[.int j]∧-(2 ^ 62)≤j∧j < 2 ^ 62∧R (zw 0 j.toNat) H1
theorem eu {a:Expr}{ta:TA}{p pos:Pos}(hg:Gl X "range")(hm:X.mg "range"=none)(ha:PA X [a] ta)(hs:starEach [a] X.env=[(false,eval a X.env)]:=by rfl):PI X tg (.Call (.Name "range" p) [a] [] pos) (A3 ta):=by
 intro pins s σ H R I h
 refine Call_ (du I hg hm boot_range (PyProof.Rows.callWith_type1 (bF (ha pos pins s σ H _ I h) fun us s1 ⟨vs,H1,I1,r1,q1⟩=>?_) hs rfl))
 obtain ⟨j,e,q1,q2,q⟩:=q1
 subst e
 cases r1 with
 | cons r rr =>
   cases rr
   obtain ⟨t,rfl⟩:=r
   exact call_range_1 (u3 I1 (by omega) (by omega) q1 q2 (by simpa using q))
noncomputable def BN (wi:TI)(g:TG)(tb:TS):TS:=fun D σ H=>wi σ H fun J H1=>∃ W:Nat->Nat->St->Hp->Prop,(∃ m,W 0 m σ H1)∧∀ i m σ H,W i m σ H →
 (J.stop i H∧D.nx σ H)∨(J.go i H∧∃ N:St->Hp->Prop,(∀ σ' H',N σ' H'->∃ m',m' < m∧W (i + 1) m' σ' H')∧∀ x H',J.yld i H x H'->g x σ H' fun σ2 H2=>tb { D with nx:=N,ct:=N,bk:=D.nx } σ2 H2)
noncomputable def kZ (fp:List Addr)(h:Heap):List (Addr × Obj):=fp.filterMap fun b=>(h.get? b).map fun o=>(b,o)
theorem eM {fp:List Addr}{h:Heap}{b:Addr}{o:Obj}(hb:b∈fp)(e:h.get? b=some o):(b,o)∈kZ fp h:=List.mem_filterMap.mpr ⟨b,hb,by rw [e]; rfl⟩
theorem tT {fp:List Addr}{h:Heap}{p:Addr × Obj}(hp:p∈kZ fp h):p.1∈fp∧h.get? p.1=some p.2:=by
 obtain ⟨b,hb,e⟩:=List.mem_filterMap.mp hp
 cases q:h.get? b with
 | none=>rw [q] at e; cases e
 | some o =>
   rw [q] at e
   have e':(b,o)=p:=Option.some.inj e
   subst e'
   exact ⟨hb,q⟩
theorem Inv.pinned {pins:List (Addr × Obj)}{σ:St}{H:Hp}{s:Shared}{fp:List Addr}(I:Inv X pins σ H s)(hf:∀ b∈fp,c6 X pins H b)(ho:∀ b∈fp,∃ o,s.heap.get? b=some o∧∀ v,o.data ≠ .cell v):Inv X (pins++kZ fp s.heap) σ H s :=
 I.pins_of fun p hp=>(List.mem_append.mp hp).elim (fun z=>I.pin p (List.mem_append_right _ z)) fun z=>by
   obtain ⟨hb,e⟩:=tT z
   obtain ⟨f0,f1,f2,_⟩:=hf p.1 hb
   obtain ⟨o,e',d⟩:=ho p.1 hb
   rw [e] at e'; cases e'
   exact ⟨e,f0,f1,f2,d⟩
theorem Inv.unpinned {pins pl:List (Addr × Obj)}{σ:St}{H:Hp}{s:Shared}(I:Inv X (pins++pl) σ H s):Inv X pins σ H s:=I.pins_of fun p hp=>I.pin p (List.mem_append_right _ (List.mem_append_left _ hp))
theorem fV {iter:Expr}{body:List Stmt}{wi:TI}{g:TG}{tb:TS}{pos:Pos}(hp:PassesOwn (model X.prog X.w) X.A X.env X.xe)(hc:X.calm=true)(hi:PI X tg iter wi)(hg:PG X tg g)(hb:ja X body tb)
 (hs:∀ x,foldedSetIterable iter X.env x=pure x:=by intro _; rfl):PS X (.For tg iter body [] pos) (BN wi g tb):=by
 intro pins s σ H D I h
 refine wpAny_For (bF (hi pins s σ H _ I h) fun v s1 h1=>bF h1 fun itv s2 h2=>?_) hs
 obtain ⟨it,fp,tn,J,H2,e,I2,T,st2,f2,W,⟨m0,w0⟩,turn⟩:=h2
 subst e
 have stat:∀ {H':Hp},(∀ b∈fp,H' b=none)->∀ b∈fp,c6 X pins H' b:=fun hn b hb=>⟨hn b hb,(f2 b hb).2⟩
 refine codeAny_forLoop_any (fun n s'=>∃ i σ' H',Inv X pins σ' H' s'∧tn i s'.heap∧(∀ b∈fp,H' b=none)∧W i n σ' H') ?_ m0 ⟨0,σ,H2,I2,st2,fun b hb=>(f2 b hb).1,w0⟩
 rintro n s3 ⟨i,σ3,H3,I3,st3,fr3,w3⟩
 rcases turn i n σ3 H3 w3 with ⟨stop,qn⟩ | ⟨go,N,hN,step⟩
 ·refine wpAny_passesOwn hp (bF (T.done X rfl rfl rfl hc i pins s3 σ3 H3 X.xe I3 (stat fr3) st3 stop) fun r s4 ⟨hr,I4⟩=>?_)
  subst hr
  exact wpAny_execs_nil ⟨σ3,H3,I4,qn⟩
 ·refine wpAny_passesOwn hp (bF (T.item X rfl rfl rfl hc i pins s3 σ3 H3 X.xe I3 (stat fr3) st3 go) fun r s4 ⟨u,hr,h4⟩=>?_)
  subst hr
  refine wpAny_passesOwn hp (bF h4 fun _ s5 ⟨x,H5,I5,r5,y5,st5,fr5⟩=>?_)
  have I5':=I5.pinned (stat fr5) (T.obj _ _ st5)
  refine wpAny_passesOwn hp (bF (hg _ s5 σ3 H5 x u _ I5' r5 (step x H5 y5)) fun _ s6 ⟨σ6,H6,I6,q6⟩=>?_)
  refine wpAny_passesOwn hp (bF (hb _ s6 σ6 H6 _ I6 q6) fun f s7 q7=>?_)
  have again:∀ {σ7:St}{H7:Hp},Inv X (pins++kZ fp s5.heap) σ7 H7 s7->N σ7 H7->∃ m,m < n∧∃ i σ' H',Inv X pins σ' H' s7∧tn i s7.heap∧(∀ b∈fp,H' b=none)∧W i m σ' H':=fun {σ7 H7} I7 n7=>by
   obtain ⟨m',hm,w7⟩:=hN σ7 H7 n7
   refine ⟨m',hm,i + 1,σ7,H7,I7.unpinned,T.keep _ _ _ st5 fun b hb o e=>(I7.pin (b,o) (List.mem_append_right _ (List.mem_append_right _ (eM hb e)))).1,fun b hb=>?_,w7⟩
   obtain ⟨o,e,d⟩:=T.obj _ _ st5 b hb
   exact (I7.pin (b,o) (List.mem_append_right _ (List.mem_append_right _ (eM hb e)))).2.1
  cases f with
  | next=>obtain ⟨σ7,H7,I7,n7⟩:=q7; exact again I7 n7
  | cont=>obtain ⟨σ7,H7,I7,n7⟩:=q7; exact again I7 n7
  | brk=>obtain ⟨σ7,H7,I7,q7⟩:=q7; exact ⟨σ7,H7,I7.unpinned,q7⟩
  | ret v=>obtain ⟨x7,σ7,H7,I7,r7,q7⟩:=q7; exact ⟨x7,σ7,H7,I7.unpinned,r7,q7⟩
end
theorem pA {K:PySem.W.Frag}{a:Addr}{xs:List V}{g:TG}{tb:TS}{D:Ends}{σ:St}{H:Hp}(Pv:Nat->St->Hp->Prop)(h0:Pv 0 σ H)(hl:∀ i σ H,i≤xs.length->Pv i σ H->aO K H a xs)
 (hs:∀ i x σ H,xs[i]?=some x->Pv i σ H->g x σ H fun σ2 H2=>tb { D with nx:=Pv (i + 1),ct:=Pv (i + 1),bk:=D.nx } σ2 H2)(hd:∀ σ H,Pv xs.length σ H->D.nx σ H):
 ∃ W:Nat->Nat->St->Hp->Prop,(∃ m,W 0 m σ H)∧∀ i m σ H,W i m σ H →
   ((Ap K a).stop i H∧D.nx σ H)∨((Ap K a).go i H∧∃ N:St->Hp->Prop,(∀ σ' H',N σ' H'->∃ m',m' < m∧W (i + 1) m' σ' H')∧∀ x H',(Ap K a).yld i H x H'->g x σ H' fun σ2 H2=>tb { D with nx:=N,ct:=N,bk:=D.nx } σ2 H2):=by
 refine ⟨fun i m σ H=>m=xs.length - i∧i≤xs.length∧Pv i σ H,⟨xs.length,by simp,Nat.zero_le _,h0⟩,?_⟩
 rintro i m σ H ⟨rfl,hi,p⟩
 have q:=hl i σ H hi p
 by_cases hlt:i < xs.length
 ·refine .inr ⟨⟨xs,xs[i],q,by simp [hlt]⟩,Pv (i + 1),fun σ' H' p'=>⟨xs.length - (i + 1),by omega,rfl,hlt,p'⟩,fun x H' y=>?_⟩
  obtain ⟨e,y⟩:=y
  subst e
  exact hs i x σ _ (y xs q) p
 ·have e:i=xs.length:=by omega
  subst e
  exact .inl ⟨⟨xs,q,Nat.le_refl _⟩,hd σ H p⟩
theorem uw {lo:Int}{n:Nat}{g:TG}{tb:TS}{D:Ends}{σ:St}{H:Hp}(Pv:Nat->St->Hp->Prop)(h0:Pv 0 σ H)
 (hs:∀ i σ H,i < n->Pv i σ H->g (.int (lo + i)) σ H fun σ2 H2=>tb { D with nx:=Pv (i + 1),ct:=Pv (i + 1),bk:=D.nx } σ2 H2)(hd:∀ σ H,Pv n σ H->D.nx σ H):
 ∃ W:Nat->Nat->St->Hp->Prop,(∃ m,W 0 m σ H)∧∀ i m σ H,W i m σ H →
   ((zw lo n).stop i H∧D.nx σ H)∨((zw lo n).go i H∧∃ N:St->Hp->Prop,(∀ σ' H',N σ' H'->∃ m',m' < m∧W (i + 1) m' σ' H')∧∀ x H',(zw lo n).yld i H x H'->g x σ H' fun σ2 H2=>tb { D with nx:=N,ct:=N,bk:=D.nx } σ2 H2):=by
 refine ⟨fun i m σ H=>m=n - i∧i≤n∧Pv i σ H,⟨n,by simp,Nat.zero_le _,h0⟩,?_⟩
 rintro i m σ H ⟨rfl,hi,p⟩
 by_cases hlt:i < n
 ·refine .inr ⟨hlt,Pv (i + 1),fun σ' H' p'=>⟨n - (i + 1),by omega,rfl,hlt,p'⟩,fun x H' y=>?_⟩
  obtain ⟨e,y⟩:=y
  subst e y
  exact hs i σ _ hlt p
 ·have e:i=n:=by omega
  subst e
  exact .inl ⟨Nat.le_refl _,hd σ H p⟩
noncomputable abbrev R2:=V->V->Hp->VK->Prop
noncomputable def eZ (X:Cx)(f:Value->Value->Sem Value)(r:R2):Prop :=
 ∀ (pins:List (Addr × Obj))(s:Shared)(σ:St)(H:Hp)(x y:V)(v u:Value)(Q:VK),Inv X pins σ H s->aB x v->aB y u->r x y H Q →
   wpAny (model X.prog X.w) X.A (f v u) (EP X pins σ Q) X.xe s
noncomputable def Cm (X:Cx)(f:Value->Sem Value)(r:V->Hp->VK->Prop):Prop :=
 ∀ (pins:List (Addr × Obj))(s:Shared)(σ:St)(H:Hp)(x:V)(v:Value)(Q:VK),Inv X pins σ H s->aB x v->r x H Q →
   wpAny (model X.prog X.w) X.A (f v) (EP X pins σ Q) X.xe s
noncomputable def cR (X:Cx)(f:Value)(r:List V->Hp->VK->Prop):Prop :=
 ∀ (pins:List (Addr × Obj))(s:Shared)(σ:St)(H:Hp)(xs:List V)(us:List Value)(Q:VK),Inv X pins σ H s->aJ xs us->r xs H Q →
   wpAny (model X.prog X.w) X.A (call f us) (EP X pins σ Q) X.xe s
noncomputable def BS (X:Cx)(r:V->Hp->(Bool->Hp->Prop)->Prop):Prop :=
 ∀ (pins:List (Addr × Obj))(s:Shared)(σ:St)(H:Hp)(x:V)(v:Value)(Q:Bool->Hp->Prop),Inv X pins σ H s->aB x v->r x H Q →
   wpAny (model X.prog X.w) X.A (truthy v) (TP X pins σ Q) X.xe s
noncomputable def pJ (r:R2)(ta tb:TE):TE:=fun σ H Q=>ta σ H fun x H1=>tb σ H1 fun y H2=>r x y H2 Q
noncomputable def CW (r:V->Hp->VK->Prop)(ta:TE):TE:=fun σ H Q=>ta σ H fun x H1=>r x H1 Q
noncomputable def rI (C:Int->Int->Prop)(g:Int->Int->V):R2:=fun x y H Q=>∃ i j,x = .int i∧y = .int j∧C i j∧Q (g i j) H
noncomputable def wq (g:Int->Int->V):R2:=fun x y H Q=>∃ i j,x = .int i∧y = .int j∧Q (g i j) H
noncomputable def rU (g:Int->V):V->Hp->VK->Prop:=fun x H Q=>∃ i,x = .int i∧Q (g i) H
section
variable {X:Cx}{a b c:Expr}{ta tb tc:TE}{pos:Pos}
theorem zk (ha:PE X a ta)(hb:PE X b tb){pins:List (Addr × Obj)}{s:Shared}{σ:St}{H:Hp}{R:V->V->Hp->Prop}(I:Inv X pins σ H s)
 (h:ta σ H fun x H1=>tb σ H1 fun y H2=>R x y H2){Q:Value->Shared->Prop}{f:Value->Value->Sem Value}
 (hf:∀ v u s2 x y H2,Inv X pins σ H2 s2->aB x v->aB y u->R x y H2->wpAny (model X.prog X.w) X.A (f v u) Q X.xe s2):
 wpAny (model X.prog X.w) X.A (eval a X.env) (fun v s₁=>wpAny (model X.prog X.w) X.A (eval b X.env) (fun u s₂=>wpAny (model X.prog X.w) X.A (f v u) Q X.xe s₂) X.xe s₁) X.xe s:=by
 refine bF (ha pins s σ H _ I h) fun v s1 ⟨x,H1,I1,r1,q1⟩=>?_
 refine bF (hb pins s1 σ H1 _ I1 q1) fun u s2 ⟨y,H2,I2,r2,q2⟩=>?_
 exact hf v u s2 x y H2 I2 r1 r2 q2
theorem az {op:Operator}{r:R2}(ho:eZ X (binaryOp op) r)(ha:PE X a ta)(hb:PE X b tb):PE X (.BinOp a op b pos) (pJ r ta tb):=by
 intro pins s σ H Q I h
 exact wpAny_BinOp (zk ha hb I h fun v u s2 x y H2 I2 rx ry q=>ho pins s2 σ H2 x y v u Q I2 rx ry q)
theorem rZ {op:UnaryOp}{r:V->Hp->VK->Prop}(ho:Cm X (unaryOp op) r)(ha:PE X a ta):PE X (.UnaryOp op a pos) (CW r ta):=by
 intro pins s σ H Q I h
 exact UnaryOp_ (bF (ha pins s σ H _ I h) fun v s1 ⟨x,H1,I1,r1,q1⟩=>ho pins s1 σ H1 x v Q I1 r1 q1)
theorem Ar {f:Value->Value->Sem Value}{C:Int->Int->Prop}{g:Int->Int->Int}
 (rule:∀ (i j:Int)(t u:Tok)(s:Shared)(Q:Value->Shared->Prop)(E:Value->Shared->Prop),C i j->Q (.int (g i j) s.toks) { s with toks:=s.toks + 1 }->wpAny (model X.prog X.w) X.A (f (.int i t) (.int j u)) Q E s):
 eZ X f (rI C fun i j=>.int (g i j)):=by
 intro pins s σ H x y v u Q I rx ry h
 obtain ⟨i,j,rfl,rfl,hc,q⟩:=h
 obtain ⟨t,rfl⟩:=rx
 obtain ⟨t',rfl⟩:=ry
 exact rule i j t t' s _ _ hc ⟨.int (g i j),H,I.tok _,⟨_,rfl⟩,q⟩
theorem Bj {f:Value->Value->Sem Value}{g:Int->Int->Int}
 (rule:∀ (i j:Int)(t u:Tok)(s:Shared)(Q:Value->Shared->Prop)(E:Value->Shared->Prop),Q (.int (g i j) s.toks) { s with toks:=s.toks + 1 }->wpAny (model X.prog X.w) X.A (f (.int i t) (.int j u)) Q E s):
 eZ X f (wq fun i j=>.int (g i j)):=by
 intro pins s σ H x y v u Q I rx ry h
 obtain ⟨i,j,rfl,rfl,q⟩:=h
 obtain ⟨t,rfl⟩:=rx
 obtain ⟨t',rfl⟩:=ry
 exact rule i j t t' s _ _ ⟨.int (g i j),H,I.tok _,⟨_,rfl⟩,q⟩
theorem xz {f:Value->Value->Sem Value}{g:Int->Int->Bool}
 (rule:∀ (i j:Int)(t u:Tok)(s:Shared)(Q:Value->Shared->Prop)(E:Value->Shared->Prop),Q (.bool (g i j)) s->wpAny (model X.prog X.w) X.A (f (.int i t) (.int j u)) Q E s):
 eZ X f (wq fun i j=>.bl (g i j)):=by
 intro pins s σ H x y v u Q I rx ry h
 obtain ⟨i,j,rfl,rfl,q⟩:=h
 obtain ⟨t,rfl⟩:=rx
 obtain ⟨t',rfl⟩:=ry
 exact rule i j t t' s _ _ ⟨.bl (g i j),H,I,rfl,q⟩
noncomputable def CB (i j:Int):Prop:=0 < j∧j < 1073741824
noncomputable def BM (i j:Int):Prop:=0≤j∧j≤1000000∧i.natAbs < 2 ^ 64
noncomputable def tU (i j:Int):Prop:=(-(2 ^ 64) < i∧i < 2 ^ 64)∨(-(2 ^ 64) < j∧j < 2 ^ 64)
theorem tU.ok {i j:Int}(h:tU i j):IntMulOk i j:=by
 rcases h with ⟨h1,h2⟩ | ⟨h1,h2⟩
 ·exact .of_left (intBits_le_64 h1 h2)
 ·exact .of_right (intBits_le_64 h1 h2)
theorem cr:eZ X (binaryOp .Add) (wq fun i j=>.int (i + j)):=Bj fun _ _ _ _ _ _ _ q=>add_int q
theorem iD:eZ X (binaryOp .Sub) (wq fun i j=>.int (i - j)):=Bj fun _ _ _ _ _ _ _ q=>sub_int q
theorem da:eZ X (binaryOp .Mult) (rI tU fun i j=>.int (i * j)):=Ar fun _ _ _ _ _ _ _ hc q=>mul_int q hc.ok
theorem yI:eZ X (binaryOp .FloorDiv) (rI CB fun i j=>.int (i / j)):=Ar fun i j _ _ _ _ _ hc q=>by
 have h1:(0:Int) < j:=hc.1
 have h2:j < 1073741824:=hc.2
 exact floordiv_int (by omega) (by rw [Int.fdiv_eq_ediv_of_nonneg i (by omega)]; exact q) (.inl (PyProof.noPylong_small (by omega)))
theorem cM:eZ X (binaryOp .Mod) (rI (fun _ j=>0 < j) fun i j=>.int (i % j)):=Ar fun i j _ _ _ _ _ hc q=>by
 have h1:(0:Int) < j:=hc
 exact mod_int' (by omega) (by rw [Int.fmod_eq_emod_of_nonneg i (by omega)]; exact q)
theorem rN:eZ X (binaryOp .Mod) (rI (fun _ j=>j≠0) fun i j=>.int (i.fmod j)):=Ar fun _ _ _ _ _ _ _ hc q=>mod_int' hc q
theorem iC:eZ X (binaryOp .Pow) (rI BM fun i j=>.int (i ^ j.toNat)):=Ar fun _ _ _ _ _ _ _ hc q=>pow_int_small hc.1 hc.2.1 hc.2.2 q
theorem CV {f:Value->Sem Value}{g:Int->Int}
 (rule:∀ (i:Int)(t:Tok)(s:Shared)(Q:Value->Shared->Prop)(E:Value->Shared->Prop),Q (.int (g i) s.toks) { s with toks:=s.toks + 1 }->wpAny (model X.prog X.w) X.A (f (.int i t)) Q E s):
 Cm X f (rU fun i=>.int (g i)):=by
 intro pins s σ H x v Q I rx h
 obtain ⟨i,rfl,q⟩:=h
 obtain ⟨t,rfl⟩:=rx
 exact rule i t s _ _ ⟨.int (g i),H,I.tok _,⟨_,rfl⟩,q⟩
theorem nY:Cm X (unaryOp .USub) (rU fun i=>.int (-i)):=CV fun _ _ _ _ _ q=>neg_int q
end
noncomputable def Bx:V->V->Bool
 | .non,.non=>true | .non,.int _=>true | .int _,.non=>true | .non,.bl _=>true | .bl _,.non=>true | .non,.str _=>true | .str _,.non=>true
 | .int _,.int _=>true | .bl _,.bl _=>true | .str _,.str _=>true | .byt _,.byt _=>true
 | .int _,.str _=>true | .str _,.int _=>true | .bl _,.str _=>true | .str _,.bl _=>true
 | _,_=>false
noncomputable def rEq:R2:=fun x y H Q=>Bx x y=true∧Q (.bl (decide (x=y))) H
noncomputable def rNe:R2:=fun x y H Q=>Bx x y=true∧Q (.bl (!decide (x=y))) H
theorem sO {i j:Int}:decide (V.int i=V.int j)=(i == j):=by
 rw [Bool.eq_iff_iff]
 simp
theorem vE {i j:Bool}:decide (V.bl i=V.bl j)=(i == j):=by
 rw [Bool.eq_iff_iff]
 simp
theorem rg {i j:Str}:decide (V.str i=V.str j)=(i == j):=by
 rw [Bool.eq_iff_iff]
 simp
theorem rB {i j:Array UInt8}:decide (V.byt i=V.byt j)=(i.toList == j.toList):=by
 rw [Bool.eq_iff_iff]
 cases i
 cases j
 simp
section
variable {X:Cx}{a b c:Expr}{ta tb tc:TE}{pos:Pos}
theorem bh {pins:List (Addr × Obj)}{σ:St}{H:Hp}{s:Shared}{Q:VK}{k k':Bool}(I:Inv X pins σ H s)(q:Q (.bl k) H)(e:k=k'):EP X pins σ Q (.bool k') s:=by
 subst e
 exact ⟨.bl k,H,I,rfl,q⟩
theorem cI:eZ X (compareOp .Eq) rEq:=by
 intro pins s σ H x y v u Q I rx ry h
 obtain ⟨hs,q⟩:=h
 cases x with
 | non =>
   cases rx
   cases y with
   | non=>cases ry; exact PySem.EqNone.eq_none_none (bh I q (by simp))
   | bl j=>cases ry; exact PySem.EqNone.eq_none_bool (bh I q (by simp))
   | int j=>obtain ⟨t',rfl⟩:=ry; exact PySem.EqNone.eq_none_int (bh I q (by simp))
   | str j=>obtain ⟨t',rfl⟩:=ry; exact PySem.EqNone.eq_none_str (bh I q (by simp))
   | _=>exact absurd (show false=true from hs) Bool.false_ne_true
 | bl i =>
   cases rx
   cases y with
   | non=>cases ry; exact PySem.EqNone.eq_bool_none (bh I q (by simp))
   | bl j=>cases ry; exact eq_bool (bh I q vE)
   | str j=>obtain ⟨t',rfl⟩:=ry; exact PySem.EqMixed.eq_bool_str (bh I q (by simp))
   | _=>exact absurd (show false=true from hs) Bool.false_ne_true
 | int i =>
   obtain ⟨t,rfl⟩:=rx
   cases y with
   | non=>cases ry; exact PySem.EqNone.eq_int_none (bh I q (by simp))
   | int j=>obtain ⟨t',rfl⟩:=ry; exact eq_int (bh I q sO)
   | str j=>obtain ⟨t',rfl⟩:=ry; exact PySem.EqMixed.eq_int_str (bh I q (by simp))
   | _=>exact absurd (show false=true from hs) Bool.false_ne_true
 | str i =>
   obtain ⟨t,rfl⟩:=rx
   cases y with
   | non=>cases ry; exact PySem.EqNone.eq_str_none (bh I q (by simp))
   | bl j=>cases ry; exact PySem.EqMixed.eq_str_bool (bh I q (by simp))
   | int j=>obtain ⟨t',rfl⟩:=ry; exact PySem.EqMixed.eq_str_int (bh I q (by simp))
   | str j=>obtain ⟨t',rfl⟩:=ry; exact eq_str (bh I q rg)
   | _=>exact absurd (show false=true from hs) Bool.false_ne_true
 | byt i =>
   obtain ⟨t,rfl⟩:=rx
   cases y with
   | byt j=>obtain ⟨t',rfl⟩:=ry; exact PySem.W.eq_bytes (bh I q rB)
   | _=>exact absurd (show false=true from hs) Bool.false_ne_true
 | _=>cases y <;> exact absurd (show false=true from hs) Bool.false_ne_true
theorem iU:eZ X (compareOp .NotEq) rNe:=by
 intro pins s σ H x y v u Q I rx ry h
 obtain ⟨hs,q⟩:=h
 cases x with
 | non =>
   cases rx
   cases y with
   | non=>cases ry; exact PySem.EqNone.ne_none_none (bh I q (by simp))
   | bl j=>cases ry; exact PySem.EqNone.ne_none_bool (bh I q (by simp))
   | int j=>obtain ⟨t',rfl⟩:=ry; exact PySem.EqNone.ne_none_int (bh I q (by simp))
   | str j=>obtain ⟨t',rfl⟩:=ry; exact PySem.EqNone.ne_none_str (bh I q (by simp))
   | _=>exact absurd (show false=true from hs) Bool.false_ne_true
 | bl i =>
   cases rx
   cases y with
   | non=>cases ry; exact PySem.EqNone.ne_bool_none (bh I q (by simp))
   | bl j=>cases ry; exact ne_bool (bh I q (congrArg not vE))
   | str j=>obtain ⟨t',rfl⟩:=ry; exact PySem.EqMixed.ne_bool_str (bh I q (by simp))
   | _=>exact absurd (show false=true from hs) Bool.false_ne_true
 | int i =>
   obtain ⟨t,rfl⟩:=rx
   cases y with
   | non=>cases ry; exact PySem.EqNone.ne_int_none (bh I q (by simp))
   | int j=>obtain ⟨t',rfl⟩:=ry; exact ne_int (bh I q (congrArg not sO))
   | str j=>obtain ⟨t',rfl⟩:=ry; exact PySem.EqMixed.ne_int_str (bh I q (by simp))
   | _=>exact absurd (show false=true from hs) Bool.false_ne_true
 | str i =>
   obtain ⟨t,rfl⟩:=rx
   cases y with
   | non=>cases ry; exact PySem.EqNone.ne_str_none (bh I q (by simp))
   | bl j=>cases ry; exact PySem.EqMixed.ne_str_bool (bh I q (by simp))
   | int j=>obtain ⟨t',rfl⟩:=ry; exact PySem.EqMixed.ne_str_int (bh I q (by simp))
   | str j=>obtain ⟨t',rfl⟩:=ry; exact ne_str (bh I q (congrArg not rg))
   | _=>exact absurd (show false=true from hs) Bool.false_ne_true
 | byt i =>
   obtain ⟨t,rfl⟩:=rx
   cases y with
   | byt j=>obtain ⟨t',rfl⟩:=ry; exact PySem.W.ne_bytes (bh I q (congrArg not rB))
   | _=>exact absurd (show false=true from hs) Bool.false_ne_true
 | _=>cases y <;> exact absurd (show false=true from hs) Bool.false_ne_true
theorem fM:eZ X (compareOp .Lt) (wq fun i j=>.bl (decide (i < j))):=xz fun _ _ _ _ _ _ _ q=>lt_int q
theorem kh:eZ X (compareOp .LtE) (wq fun i j=>.bl (decide (i≤j))):=xz fun _ _ _ _ _ _ _ q=>le_int q
theorem vO:eZ X (compareOp .Gt) (wq fun i j=>.bl (decide (j < i))):=xz fun _ _ _ _ _ _ _ q=>gt_int q
theorem y9:eZ X (compareOp .GtE) (wq fun i j=>.bl (decide (j≤i))):=xz fun _ _ _ _ _ _ _ q=>ge_int q
theorem zG:eZ X (compareOp .Is) (fun x y H Q=>y = .non∧Q (.bl (decide (x = .non))) H):=by
 intro pins s σ H x y v u Q I rx ry h
 obtain ⟨rfl,q⟩:=h
 cases ry
 refine is_none_gen (bh I q ?_)
 cases x <;> first
  | (cases rx; rfl)
  | (obtain ⟨t,rfl⟩:=rx; rfl)
theorem aG (b:Expr){op:CmpOp}(h:op ≠ .In:=by decide)(h2:op ≠ .NotIn:=by decide):behindInMarks op b=false:=by
 have e1:(op == CmpOp.In)=false:=by cases op <;> first | rfl | exact absurd rfl h
 have e2:(op == CmpOp.NotIn)=false:=by cases op <;> first | rfl | exact absurd rfl h2
 cases b <;> simp [behindInMarks,e1,e2]
theorem cX {op:CmpOp}{r:R2}(ho:eZ X (compareOp op) r)(ha:PE X a ta)(hb:PE X b tb)(hm:behindInMarks op b=false):PE X (.Compare a [op] [b] pos) (pJ r ta tb):=by
 intro pins s σ H Q I h
 exact wpAny_Compare1 (zk ha hb I h fun v u s2 x y H2 I2 rx ry q=>ho pins s2 σ H2 x y v u Q I2 rx ry q) hm
noncomputable def yT (t:TE):TT:=fun σ H Q=>t σ H fun x H'=>∃ k,x = .bl k∧Q k H'
theorem aF {op:CmpOp}{r:R2}(ho:eZ X (compareOp op) r)(ha:PE X a ta)(hb:PE X b tb)(hm:behindInMarks op b=false):PT X (.Compare a [op] [b] pos) (yT (pJ r ta tb)):=by
 intro pins s σ H Q I h
 refine wpAny_isTrue_Compare1 (bF (ha pins s σ H _ I h) fun v s1 ⟨x,H1,I1,r1,q1⟩=>bF (hb pins s1 σ H1 _ I1 q1) fun u s2 ⟨y,H2,I2,r2,q2⟩ =>
  bF (ho pins s2 σ H2 x y v u _ I2 r1 r2 q2) fun c s3 ⟨z,H3,I3,r3,k,e,q3⟩=>?_) hm
 subst e
 cases r3
 exact wpAny_truthy_bool ⟨H3,I3,q3⟩
noncomputable def vX (r r':R2)(ta tb tc:TE):TE:=fun σ H Q=>ta σ H fun x H1=>tb σ H1 fun y H2=>r x y H2 fun z H3=>∃ k,z = .bl k ∧
 (if k=true then tc σ H3 fun w' H4=>r' y w' H4 Q else Q (.bl false) H3)
theorem ky {op op':CmpOp}{r r':R2}(ho:eZ X (compareOp op) r)(ho':eZ X (compareOp op') r')(ha:PE X a ta)(hb:PE X b tb)(hc:PE X c tc)
 (hm:lastMarks [op,op'] [b,c]=false:=by with_unfolding_all rfl):PE X (.Compare a [op,op'] [b,c] pos) (vX r r' ta tb tc):=by
 intro pins s σ H Q I h
 refine Compare_chain (bF (ha pins s σ H _ I h) fun v s1 ⟨x,H1,I1,r1,q1⟩=>chain_link (bF (hb pins s1 σ H1 _ I1 q1) fun u s2 ⟨y,H2,I2,r2,q2⟩ =>
  bF (ho pins s2 σ H2 x y v u _ I2 r1 r2 q2) fun d s3 ⟨z,H3,I3,r3,k,e,q3⟩=>?_)) hm
 subst e
 cases r3
 refine wpAny_truthy_bool ?_
 cases k with
 | false=>exact ite_ff ⟨.bl false,H3,I3,rfl,q3⟩
 | true=>exact ite_tt (chain_last (bF (hc pins s3 σ H3 _ I3 q3) fun w' s4 ⟨z',H4,I4,r4,q4⟩=>ho' pins s4 σ H4 y z' u w' Q I4 r2 r4 q4))
theorem ow {op op':CmpOp}{r r':R2}(ho:eZ X (compareOp op) r)(ho':eZ X (compareOp op') r')(ha:PE X a ta)(hb:PE X b tb)(hc:PE X c tc)
 (hm:lastMarks [op,op'] [b,c]=false:=by with_unfolding_all rfl):PT X (.Compare a [op,op'] [b,c] pos) (yT (vX r r' ta tb tc)):=by
 intro pins s σ H Q I h
 refine isTrue_chain (bF (ha pins s σ H _ I h) fun v s1 ⟨x,H1,I1,r1,q1⟩=>test_link (bF (hb pins s1 σ H1 _ I1 q1) fun u s2 ⟨y,H2,I2,r2,q2⟩ =>
  bF (ho pins s2 σ H2 x y v u _ I2 r1 r2 q2) fun d s3 ⟨z,H3,I3,r3,k,e,q3⟩=>?_)) hm
 subst e
 cases r3
 refine wpAny_truthy_bool ?_
 cases k with
 | false =>
   obtain ⟨k',e',q'⟩:=q3
   cases e'
   exact ite_ff ⟨H3,I3,q'⟩
 | true =>
   refine ite_tt (test_last (bF (hc pins s3 σ H3 _ I3 q3) fun w' s4 ⟨z',H4,I4,r4,q4⟩=>bF (ho' pins s4 σ H4 y z' u w' _ I4 r2 r4 q4) fun d' s5 ⟨z2,H5,I5,r5,k2,e2,q5⟩=>?_))
   subst e2
   cases r5
   exact wpAny_truthy_bool ⟨H5,I5,q5⟩
noncomputable def zZ (K:PySem.W.Frag)(x:V)(H:Hp)(k:Bool):Prop :=
 match x with
 | .non=>k=false
 | .bl b=>k=b
 | .int i=>k=(i != 0)
 | .str y=>y.length≤sizeLine∧k=((y.length:Int) != 0)
 | .byt y=>y.size≤sizeLine∧k=((y.size:Int) != 0)
 | .ref p=>(∃ xs,aO K H p xs∧k = !xs.isEmpty)∨(∃ xs,bc K H p xs∧k = !xs.isEmpty)∨∃ kvs,H p=some (.dK kvs)∧k = !kvs.isEmpty
 | _=>False
theorem qr {κ:Type}{kvs:List (κ × V)}{vs:List (κ × Value)}(r:KV kvs vs):(!vs.isEmpty) = !kvs.isEmpty:=by
 cases r <;> rfl
theorem jQ {xs:List V}{its:List Value}(r:aJ xs its):(!its.toArray.isEmpty) = !xs.isEmpty:=by
 cases r <;> simp
theorem kE:(sizeLine:Nat) < 2 ^ 63:=by rw [sizeLine_eq]; decide
theorem zX:BS X (fun x H Q=>∃ k,zZ X.K x H k∧Q k H):=by
 intro pins s σ H x v Q I rx h
 obtain ⟨k,e,q⟩:=h
 have hl:=kE
 have hs:sizeLine=16777216:=sizeLine_eq
 cases x with
 | non =>
   cases rx
   have e':k=false:=e
   subst e'
   exact truthy_none ⟨H,I,q⟩
 | bl b =>
   cases rx
   have e':k=b:=e
   subst e'
   exact wpAny_truthy_bool ⟨H,I,q⟩
 | int i =>
   obtain ⟨t,rfl⟩:=rx
   have e':k=(i != 0):=e
   subst e'
   exact PySem.P.truthy_int ⟨H,I,q⟩
 | str y =>
   obtain ⟨t,rfl⟩:=rx
   obtain ⟨hy,e'⟩:y.length≤sizeLine∧k=((y.length:Int) != 0):=e
   subst e'
   exact PySem.P.truthy_str (by omega) ⟨H,I.tok _,q⟩
 | byt y =>
   obtain ⟨t,rfl⟩:=rx
   obtain ⟨hy,e'⟩:y.size≤sizeLine∧k=((y.size:Int) != 0):=e
   subst e'
   exact PySem.W.truthy_bytes (by omega) ⟨H,I.tok _,q⟩
 | ref p =>
   cases rx
   have e':(∃ xs,aO X.K H p xs∧k = !xs.isEmpty)∨(∃ xs,bc X.K H p xs∧k = !xs.isEmpty)∨∃ kvs,H p=some (.dK kvs)∧k = !kvs.isEmpty:=e
   rcases e' with ⟨xs,hx,e'⟩ | ⟨xs,hx,e'⟩ | ⟨kvs,hx,e'⟩
   ·subst e'
    obtain ⟨its,r,pl,hz⟩:=I.list hx
    have hlen:=r.length
    exact wpAny_truthy_list pl.isList (by simp only [List.size_toArray]; omega) ⟨H,I.tok _,by rw [jQ r]; exact q⟩
   ·subst e'
    obtain ⟨its,r,pl,hz⟩:=I.tuple hx
    have hlen:=r.length
    exact truthy_tuple pl (by simp only [List.size_toArray]; omega) ⟨H,I.tok _,by rw [jQ r]; exact q⟩
   ·subst e'
    obtain ⟨hz,hS,vs,r,m⟩:kvs.length≤sizeLine∧(p == sysModules)=false∧∃ vs,KV kvs vs∧s.heap.DictOf (bZ X.prog X.w) p vs:=I.hok p _ hx
    have hlen:kvs.length=vs.length:=Paired.length r
    exact wpAny_truthy_dict hS m (by omega) ⟨H,I.tok _,by rw [qr r]; exact q⟩
 | _=>exact (show False from e).elim
theorem oU (ha:PE X a ta)(he:∀ cB,isTrue a X.env cB=(do let v ← cB; standAt a.pos; holding [v] (truthy v))):
 PT X a (fun σ H Q=>ta σ H fun x H'=>∃ k,zZ X.K x H' k∧Q k H'):=by
 intro pins s σ H Q I h
 exact isTrue_plain (bF (ha pins s σ H _ I h) fun v s1 ⟨x,H1,I1,r1,q1⟩=>zX pins s1 σ H1 x v Q I1 r1 q1) (he _)
theorem dH {x:V}{us:List Value}(r:aJ [x] us):∃ u,us=[u]∧aB x u:=by
 cases r with
 | cons r1 r2=>cases r2; exact ⟨_,rfl,r1⟩
theorem wU {x y:V}{us:List Value}(r:aJ [x,y] us):∃ u w',us=[u,w']∧aB x u∧aB y w':=by
 cases r with
 | cons r1 r2 =>
   cases r2 with
   | cons r3 r4=>cases r4; exact ⟨_,_,rfl,r1,r3⟩
theorem hU:cR X (.builtin "abs") (fun xs H Q=>∃ i,xs=[.int i]∧Q (.int (if i < 0 then -i else i)) H):=by
 intro pins s σ H xs us Q I r h
 obtain ⟨i,rfl,q⟩:=h
 obtain ⟨u,rfl,t,rfl⟩:=dH r
 exact call_abs_int fun u tk=>⟨.int (if i < 0 then -i else i),H,I.tok _,⟨_,rfl⟩,q⟩
theorem iJ (hc:X.calm=true):cR X (.builtin "max") (fun xs H Q=>∃ i j,xs=[.int i,.int j]∧Q (.int (if j > i then j else i)) H):=by
 intro pins s σ H xs us Q I r h
 obtain ⟨i,j,rfl,q⟩:=h
 obtain ⟨u,w',rfl,⟨t,rfl⟩,⟨t',rfl⟩⟩:=wU r
 refine max_two_ints (I.ok.hd hc) fun h' tk k=>⟨_,H,I.kept k,?_,q⟩
 by_cases hj:j > i
 ·rw [if_pos hj,if_pos hj]; exact ⟨_,rfl⟩
 ·rw [if_neg hj,if_neg hj]; exact ⟨_,rfl⟩
theorem lF (hc:X.calm=true):cR X (.builtin "min") (fun xs H Q=>∃ i j,xs=[.int i,.int j]∧Q (.int (if j < i then j else i)) H):=by
 intro pins s σ H xs us Q I r h
 obtain ⟨i,j,rfl,q⟩:=h
 obtain ⟨u,w',rfl,⟨t,rfl⟩,⟨t',rfl⟩⟩:=wU r
 refine min_two_ints (I.ok.hd hc) fun h' tk k=>⟨_,H,I.kept k,?_,q⟩
 by_cases hj:j < i
 ·rw [if_pos hj,if_pos hj]; exact ⟨_,rfl⟩
 ·rw [if_neg hj,if_neg hj]; exact ⟨_,rfl⟩
theorem ip:cR X (.type "int") (fun xs H Q=>(∃ i,xs=[.int i]∧Q (.int i) H)∨∃ k,xs=[.bl k]∧Q (.int (if k then 1 else 0)) H):=by
 intro pins s σ H xs us Q I r h
 rcases h with ⟨i,rfl,q⟩ | ⟨k,rfl,q⟩
 ·obtain ⟨u,rfl,t,rfl⟩:=dH r
  exact call_int_int ⟨.int i,H,I,⟨_,rfl⟩,q⟩
 ·obtain ⟨u,rfl,r1⟩:=dH r
  cases r1
  exact call_int_bool ⟨.int (if k then 1 else 0),H,I.tok _,⟨_,rfl⟩,q⟩
end
structure ObjM (h:Heap)(x dx C:Addr)(mA:Str->Option Value):Prop where
 obj:h.get? x=some (PySem.W.instObj C dx)
 ns:h.Ns1 dx mA
 ne:dx≠x
theorem tG {h:Heap}{dx:Addr}{mA:Str->Option Value}(n:h.Ns1 dx mA):∃ od,h.get? dx=some od∧∀ name,PySem.W.lookIn name od=some (mA name):=by
 obtain ⟨o,es,ep,ho,hd,hk,_,hm⟩:=n
 refine ⟨o,ho,fun name=>?_⟩
 have e:=hm name
 unfold nsFind findBy at e
 rw [← Array.find?_toList] at e
 unfold PySem.W.lookIn
 rw [hd]
 dsimp only
 split
 ·rename_i y q
  rw [q] at e
  exact congrArg some e
 ·rename_i q
  rw [q] at e
  have a:es.toList.any (·.refKey)=false:=by
   rw [List.any_eq_false]
   intro y hy
   obtain ⟨z,t,hkey⟩:=hk y (Array.mem_toList_iff.mp hy)
   simp [DictEntry.refKey,hkey]
  have a':¬ es.toList.any (·.refKey)=true:=by rw [a]; exact Bool.false_ne_true
  rw [if_neg a']
  exact congrArg some e
theorem ObjM.look {h:Heap}{x dx C:Addr}{mA:Str->Option Value}(I:ObjM h x dx C mA):∃ od,PySem.W.InstAt h x (PySem.W.instObj C dx) C (some od)∧∀ name,PySem.W.lookIn name od=some (mA name):=
 let ⟨od,ho,hl⟩:=tG I.ns
 ⟨od,⟨I.obj,rfl,rfl,ho⟩,hl⟩
section
variable {prog:Program}{w:World}{A:Around}{E:Value->Shared->Prop}{s:Shared}{K:PySem.W.Frag}{x dx C f:Addr}{mA:Str->Option Value}{name:Str}{v:Value}
theorem xT {expr:Bool}{Q:Value->Shared->Prop}(X:K.In s.heap)(I:ObjM s.heap x dx C mA)(hg:PySem.W.plainGet K C name=true)(hh:PySem.W.hasDictIn K C=true)
 (ha:PySem.W.findIn K (.ref C) name=some none)(hv:mA name=some v)(hv':PySem.W.handedIn v=true)(h:Q v { s with toks:=s.toks + 1 }):
 wpAny (model prog w) A (getAttr (.ref x) name expr) Q E s:=by
 obtain ⟨od,J,hl⟩:=I.look
 exact PySem.W.get_value X J (PySem.W.plainGet_of hg).1 (PySem.W.findObj_own hh ha rfl (by rw [hl,hv])) hv' h
theorem wI {pl:Sem Bool}{Q:Value × List Value->Shared->Prop}(X:K.In s.heap)(I:ObjM s.heap x dx C mA)(hg:PySem.W.plainGet K C name=true)
 (hf:PySem.W.findIn K (.ref C) name=some (some (.ref f)))(ht:PySem.W.isFn K (.ref f)=true)(hv:mA name=none)(h:Q (.ref f,[.ref x]) s):
 wpAny (model prog w) A (getMethod (.ref x) name pl) Q E s:=by
 obtain ⟨od,J,hl⟩:=I.look
 exact PySem.W.method_fn X J (PySem.W.plainGet_of hg).1 (PySem.W.plainGet_of hg).2 hf (beq_iff_eq.mp ht) (by show (PySem.W.lookIn name od).map (·.isSome)=some false; rw [hl,hv]; rfl) h
theorem yn {ns:List Str}{Q:Unit->Shared->Prop}(X:K.In s.heap)(I:ObjM s.heap x dx C mA)
 (hs:PySem.W.findIn K (.ref C) "__setattr__"=some (some (.builtin "object.__setattr__")))(hp:PySem.W.plainOver K C=true)(ht:PySem.W.takerIn K C name=some none)(hh:PySem.W.hasDictIn K C=true)
 (hw:PySem.Within mA ns)(hsz:ns.length≤sizeLine)
 (h:∀ h',ObjM h' x dx C (fun y=>if y=name then some v else mA y)->Heap.SameBut dx s.heap h'->Q () { s with heap:=h',toks:=s.toks + 2 }):
 wpAny (model prog w) A (setAttr (.ref x) name v) Q E s:=by
 obtain ⟨od,J,hl⟩:=I.look
 refine PySem.W.set_plain X J hs (PySem.W.osa_open (s:={ s with toks:=s.toks + 1 }) (r:=none) X J hp ht fun b=>?_)
 obtain ⟨cd,hc,hd'⟩:=PySem.W.any_some hh
 have hx:s.heap.get? x=some ⟨.ref C,some dx,.plain,#[]⟩:=I.obj
 refine wpAny_bind (wpAny_pure (wpAny_bind (wpAny_bind (wpAny_loadPart hx (wpAny_bind (PySem.W.Looks.here (s:={ s with toks:=s.toks + 1 }) (PySem.W.looks_clsIn X hc) ?_))))))
 rw [hd']
 refine wpAny_pure (a:=some dx) (wpAny_bind (wpAny_pure (wpAny_bind ?_)))
 refine wpAny_nsSet1 (s:={ s with toks:=s.toks + 1 }) I.ns fun h' hn2 hs2=>?_
 obtain ⟨oD,esD,epD,hoD,hdD,hcD⟩:=hn2.count (PySem.Within.cons name v hw)
 refine wpAny_bind (wpAny_lookBehind hoD (by rw [hdD]; exact pastItsLine_dict (Nat.le_trans hcD (by rw [List.length_cons]; omega))) ?_)
 exact wpAny_pure (h _ ⟨(hs2.2 _ (Ne.symm I.ne)).trans I.obj,hn2,I.ne⟩ hs2)
theorem wu {R:Result->Shared->Prop}{vs:List Value}{kw:List (Str × Value)}(X:K.In s.heap)(hm:PySem.W.makesIn K C=true)
 (hi:PySem.W.findIn K (.ref C) "__init__"=some (some (.ref f)))(hf:PySem.W.typeIn K (.ref f)=some (.type "function"))
 (h:codeAny (model prog w) (A.under (.builtin "type.__call__" ⟨.ref C :: vs,kw⟩)) (.call (.ref f) ⟨.ref (s.heap.objs.size + 1):: vs,kw⟩) (PySem.W.InitBack (s.heap.objs.size + 1) R)
  { s with heap:=(s.heap.push PySem.W.emptyDict).push (PySem.W.instObj C s.heap.objs.size) }):
 codeAny (model prog w) A (.call (.ref C) ⟨vs,kw⟩) R s:=by
 obtain ⟨hh,g,d,t,os⟩:=s
 exact PySem.W.make_core (PySem.W.makes_of X hm) (PySem.W.looks_findIn X hi) (fun self=>PySem.W.bind_fn X self hf) (.inl rfl) h
end
noncomputable def dE (f:Str)(v:V):List (Str × V)->List (Str × V)
 | []=>[(f,v)]
 | (g,x):: r=>if g=f then (g,v):: r else (g,x):: dE f v r
theorem iW (f g:Str)(v:V):∀ fs:List (Str × V),(dE f v fs).lookup g=if g=f then some v else fs.lookup g
 | []=>by
   show List.lookup g [(f,v)]=_
   by_cases h:g=f
   ·have hb:(g == f)=true:=beq_iff_eq.mpr h
    simp only [List.lookup,hb,if_pos h]
   ·have hb:(g == f)=false:=beq_eq_false_iff_ne.mpr h
    simp only [List.lookup,hb,if_neg h]
 | (k,x):: r=>by
   have ih:=iW f g v r
   rw [show dE f v ((k,x):: r)=(if k=f then (k,v):: r else (k,x):: dE f v r) from rfl]
   by_cases hk:k=f
   ·rw [if_pos hk]
    by_cases h:g=k
    ·have hb:(g == k)=true:=beq_iff_eq.mpr h
     simp only [List.lookup,hb,if_pos (h.trans hk)]
    ·have hb:(g == k)=false:=beq_eq_false_iff_ne.mpr h
     simp only [List.lookup,hb,if_neg (fun e:g=f=>h (e.trans hk.symm))]
   ·rw [if_neg hk]
    by_cases h:g=k
    ·have hb:(g == k)=true:=beq_iff_eq.mpr h
     simp only [List.lookup,hb,if_neg (fun e:g=f=>hk (h.symm.trans e))]
    ·have hb:(g == k)=false:=beq_eq_false_iff_ne.mpr h
     simp only [List.lookup,hb]
     exact ih
theorem iw (f:Str)(v:V):∀ fs:List (Str × V),f∈(dE f v fs).map (·.1)∧∀ g,g∈fs.map (·.1)->g∈(dE f v fs).map (·.1)
 | []=>⟨by simp [dE],fun g h=>by simp at h⟩
 | (k,x):: r=>by
   obtain ⟨i1,i2⟩:=iw f v r
   rw [show dE f v ((k,x):: r)=(if k=f then (k,v):: r else (k,x):: dE f v r) from rfl]
   by_cases hk:k=f
   ·rw [if_pos hk]
    subst hk
    exact ⟨by simp,fun g h=>by simpa using h⟩
   ·rw [if_neg hk]
    refine ⟨?_,fun g h=>?_⟩
    ·rw [List.map_cons]
     exact List.mem_cons_of_mem _ i1
    ·rw [List.map_cons] at h ⊢
     rcases List.mem_cons.mp h with e | e
     ·exact List.mem_cons.mpr (.inl e)
     ·exact List.mem_cons_of_mem _ (i2 g e)
theorem i8 (f:Str)(v:V):∀ fs:List (Str × V),(dE f v fs).length≤fs.length + 1
 | []=>by simp [dE]
 | (k,x):: r=>by
   have ih:=i8 f v r
   rw [show dE f v ((k,x):: r)=(if k=f then (k,v):: r else (k,x):: dE f v r) from rfl]
   by_cases hk:k=f
   ·rw [if_pos hk,List.length_cons,List.length_cons]; omega
   ·rw [if_neg hk,List.length_cons,List.length_cons]; omega
theorem fe.some_of {v:V}{o:Option Value}(r:fe (some v) o):∃ u,o=some u∧aB v u:=by
 cases o with
 | none=>exact (show False from r).elim
 | some u=>exact ⟨u,rfl,r⟩
theorem fe.none_of {o:Option Value}(r:fe none o):o=none:=by
 cases o with
 | none=>rfl
 | some u=>exact (show False from r).elim
theorem uu {v:V}{u:Value}(r:aB v u):PySem.W.handedIn u=true:=by
 cases v with
 | non=>cases (show u=Value.none from r); rfl
 | bl b=>cases (show u=Value.bool b from r); rfl
 | int i=>obtain ⟨t,e⟩:=(show ∃ t,u=Value.int i t from r); cases e; rfl
 | str x=>obtain ⟨t,e⟩:=(show ∃ t,u=Value.str x t from r); cases e; rfl
 | byt b=>obtain ⟨t,e⟩:=(show ∃ t,u=Value.bytes b t from r); cases e; rfl
 | flt b=>obtain ⟨t,e⟩:=(show ∃ t,u=Value.float b t from r); cases e; rfl
 | ref a=>cases (show u=Value.ref a from r); rfl
 | ty n=>cases (show u=Value.type n from r); rfl
section
variable {P:Program}{w:World}{H H':Hp}{h h':Heap}{a C dx:Addr}{fs fs':List (Str × V)}
theorem fX (hok:eA P w H h)(e:H a=some (.ins C dx fs)):∃ mA,ObjM h a dx C mA∧(∀ f,fe (fs.lookup f) (mA f))∧PySem.Within mA (fs.map (·.1))∧fs.length≤1000∧H dx=some (.own a):=by
 obtain ⟨d,z,ne,ob,mA,n,r,q⟩:=(show bg P w H h a (.ins C dx fs) from hok a _ e)
 exact ⟨mA,⟨ob,n,ne⟩,r,q,z,d⟩
end
structure Cls (K:PySem.W.Frag)(C:Addr):Prop where
 pg:PySem.W.plainGet K C Str.empty=true
 hd:PySem.W.hasDictIn K C=true
 po:PySem.W.plainOver K C=true
 sa:PySem.W.findIn K (.ref C) "__setattr__"=some (some (.builtin "object.__setattr__"))
theorem Cls.get {K:PySem.W.Frag}{C:Addr}(c:Cls K C)(f:Str):PySem.W.plainGet K C f=true:=c.pg
noncomputable def dM (K:PySem.W.Frag)(C:Addr)(f:Str):Prop:=PySem.W.findIn K (.ref C) f=some none
theorem dM.taker {K:PySem.W.Frag}{C:Addr}{f:Str}(n:dM K C f):PySem.W.takerIn K C f=some none:=by
 unfold PySem.W.takerIn
 rw [show PySem.W.findIn K (.ref C) f=some none from n]
 rfl
structure Meth (K:PySem.W.Frag)(C:Addr)(m:Str)(f:Addr):Prop where
 at_:PySem.W.findIn K (.ref C) m=some (some (.ref f))
 fn:PySem.W.isFn K (.ref f)=true
 kp:PySem.W.keepIn K (.ref f)=true
section
variable {X:Cx}{pins:List (Addr × Obj)}{σ:St}{H:Hp}{s:Shared}{a C dx:Addr}{fs:List (Str × V)}{f:Str}{v:V}{A:Around}{E:Value->Shared->Prop}
theorem pU {b:Bool}{Q:Value->Shared->Prop}(I:Inv X pins σ H s)(e:H a=some (.ins C dx fs))(c:Cls X.K C)(n:dM X.K C f)(l:fs.lookup f=some v)
 (h:∀ u s',Inv X pins σ H s'->aB v u->Q u s'):wpAny (model X.prog X.w) A (getAttr (.ref a) f b) Q E s:=by
 obtain ⟨mA,O,r,_,_,_⟩:=fX I.hok e
 obtain ⟨u,hu,ru⟩:=fe.some_of (v:=v) (o:=mA f) (by rw [← l]; exact r f)
 exact xT I.kIn O (c.get f) c.hd n hu (uu ru) (h u _ (I.tok _) ru)
theorem jS {m:Str}{g:Addr}{pl:Sem Bool}{Q:Value × List Value->Shared->Prop}(I:Inv X pins σ H s)(e:H a=some (.ins C dx fs))(c:Cls X.K C)(k:Meth X.K C m g)(l:fs.lookup m=none)
 (h:Q (.ref g,[.ref a]) s):wpAny (model X.prog X.w) A (getMethod (.ref a) m pl) Q E s:=by
 obtain ⟨mA,O,r,_,_,_⟩:=fX I.hok e
 have hn:mA m=none:=fe.none_of (by rw [← l]; exact r m)
 exact wI I.kIn O (c.get m) k.at_ k.fn hn h
theorem qL {y:V}{u:Value}{Q:Unit->Shared->Prop}(I:Inv X pins σ H s)(e:H a=some (.ins C dx fs))(c:Cls X.K C)(n:dM X.K C f)(hl:fs.length < 1000)(ry:aB y u)
 (h:∀ s',Inv X pins σ (upd H a (.ins C dx (dE f y fs))) s'->Q () s'):wpAny (model X.prog X.w) A (setAttr (.ref a) f u) Q E s:=by
 obtain ⟨mA,O,r,wi,_,ho⟩:=fX I.hok e
 have hz:(fs.map (·.1)).length≤sizeLine:=by rw [List.length_map,sizeLine_eq]; omega
 refine yn I.kIn O c.sa c.po n.taker c.hd wi hz fun h' O' sb=>h _ ?_
 have hd:∃ o,h'.get? dx=some o:=let ⟨o,_,_,e',_⟩:=O'.ns; ⟨o,e'⟩
 refine I.write (x:=a) (e:=dx) (by rw [e]; exact True.intro) (.inr ho) (fun b q hb z=>(sb.2 b hb).trans z) hd ?_
 refine ⟨by rw [al O.ne]; exact ho,?_,O.ne,O'.obj,_,O'.ns,fun g=>?_,fun g hg=>?_⟩
 ·have:=i8 f y fs; omega
 ·show fe ((dE f y fs).lookup g) (if g=f then some u else mA g)
  rw [iW]
  by_cases q:g=f
  ·rw [if_pos q,if_pos q]; exact ry
  ·rw [if_neg q,if_neg q]; exact r g
 ·by_cases q:g=f
  ·rw [q]; exact (iw f y fs).1
  ·refine (iw f y fs).2 g (wi g fun z=>hg ?_)
   show (if g=f then some u else mA g)=none
   rw [if_neg q]; exact z
theorem Inv.made (I:Inv X pins σ H s):Inv X pins σ (upd (upd H s.heap.objs.size (.own (s.heap.objs.size + 1))) (s.heap.objs.size + 1) (.ins C s.heap.objs.size []))
 { s with heap:=(s.heap.push PySem.W.emptyDict).push (PySem.W.instObj C s.heap.objs.size) }:=by
 have e1:(s.heap.push PySem.W.emptyDict).get? s.heap.objs.size=some PySem.W.emptyDict:=Heap.get?_push_size s.heap rfl
 have e2:((s.heap.push PySem.W.emptyDict).push (PySem.W.instObj C s.heap.objs.size)).get? (s.heap.objs.size + 1)=some (PySem.W.instObj C s.heap.objs.size):=by
  have:=Heap.get?_push_size (s.heap.push PySem.W.emptyDict) (o:=PySem.W.instObj C s.heap.objs.size) rfl
  rwa [Heap.size_push] at this
 have e3:(s.heap.push PySem.W.emptyDict).Ns s.heap.objs.size (fun _=>none):=⟨PySem.W.emptyDict,#[],_,e1,rfl,(fun e he=>absurd he (by simp)),fun _=>rfl⟩
 have I1:=I.laid (a:=s.heap.objs.size) (o:=.own (s.heap.objs.size + 1)) (h':=s.heap.push PySem.W.emptyDict) (t':=s.toks) (fun b u q=>Heap.get?_push_of_some _ q) (Nat.le_refl _) ⟨_,e1⟩
 refine I1.laid (a:=s.heap.objs.size + 1) (o:=.ins C s.heap.objs.size []) (t':=s.toks) (fun b u q=>Heap.get?_push_of_some _ q) (Nat.le_of_eq (Heap.size_push _ _)) ?_
 have ne:s.heap.objs.size≠s.heap.objs.size + 1:=Nat.ne_of_lt (Nat.lt_succ_self _)
 refine ⟨by rw [al ne,ac],Nat.zero_le _,ne,e2,fun _=>none,(Heap.Ns1.of_empty e3).at fun o q=>Heap.get?_push_of_some _ q,fun _=>True.intro,fun y hy=>absurd rfl hy⟩
theorem xw {prog:Program}{w:World}{env:Env}{e:Expr}{f:Str}{pos:Pos}{s:Shared}{Q:Value->Shared->Prop}(hb:attributeBase e f env (eval e env)=eval e env)
 (h:wpAny (model prog w) A (eval e env) (fun o s₁=>wpAny (model prog w) A (getAttr o f true) Q E s₁) E s):wpAny (model prog w) A (eval (.Attribute e f pos) env) Q E s :=
 Attribute_any_ h (by rw [arm_eval_Attribute,hb])
end
noncomputable def Cv (K:PySem.W.Frag)(ta:TE)(f:Str):TE:=fun σ H Q=>ta σ H fun x H1=>∃ a C dx fs v,x = .ref a∧H1 a=some (.ins C dx fs)∧Cls K C∧dM K C f∧fs.lookup f=some v∧Q v H1
noncomputable def BX (K:PySem.W.Frag)(ta tv:TE)(f:Str):TS:=fun D σ H=>tv σ H fun y H1=>ta σ H1 fun x H2=>∃ a C dx fs,x = .ref a∧H2 a=some (.ins C dx fs)∧Cls K C∧dM K C f∧fs.length < 1000 ∧
 D.nx σ (upd H2 a (.ins C dx (dE f y fs)))
section
variable {X:Cx}{o e value:Expr}{f:Str}{pos pos' tpos:Pos}{ta tv:TE}
theorem cp (he:PE X e ta)(hb:attributeBase e f X.env (eval e X.env)=eval e X.env):PE X (.Attribute e f pos) (Cv X.K ta f):=by
 intro pins s σ H Q I h
 refine xw hb (bF (he pins s σ H _ I h) fun u s1 ⟨x,H1,I1,rx,a,C,dx,fs,v,ex,ea,c,n,l,q⟩=>?_)
 subst ex
 obtain rfl:u=Value.ref a:=rx
 exact pU I1 ea c n l fun u' s2 I2 ru=>⟨v,H1,I2,ru,q⟩
theorem nh (ha:PE X o ta)(hv:PE X value tv)(hs:swapsWith value (some (.Attribute o f pos')) pos.line X.env=pure false):PS X (.Assign [.Attribute o f pos'] value pos) (BX X.K ta tv f):=by
 intro pins s σ H D I h
 refine plainObj_wpAny_Assign_Attribute (bF (hv pins s σ H _ I h) fun u s1 ⟨y,H1,I1,ry,q⟩=>bF (ha pins s1 σ H1 _ I1 q) fun ov s2 ⟨x,H2,I2,rx,a,C,dx,fs,ex,ea,c,n,l,q2⟩=>?_) hs
 subst ex
 obtain rfl:ov=Value.ref a:=rx
 exact qL I2 ea c n l ry fun s3 I3=>⟨σ,_,I3,q2⟩
end
section
variable {X:Cx}{pins:List (Addr × Obj)}{σ:St}{H:Hp}{s:Shared}{A:Around}{E:Value->Shared->Prop}{Q:Value->Shared->Prop}{c:Value}{b:Bool}
inductive TyOf (K:PySem.W.Frag)(H:Hp):V->Value->Prop where
 | non:TyOf K H .non (.type "NoneType")
 | bl (x:Bool):TyOf K H (.bl x) (.type "bool")
 | int (i:Int):TyOf K H (.int i) (.type "int")
 | str (x:Str):TyOf K H (.str x) (.type "str")
 | flt (x:UInt64):TyOf K H (.flt x) (.type "float")
 | lst {a:Addr}{xs:List V}(e:H a=some (.lst xs)):TyOf K H (.ref a) (.type "list")
 | frz {a:Addr}{o:Obj}{xs:List V}(e:H a=some (.frz o (.lst xs))):TyOf K H (.ref a) (.type "list")
 | tup {a:Addr}{xs:List V}(e:H a=some (.tup xs)):TyOf K H (.ref a) (.type "tuple")
 | dK {a:Addr}{kvs:List (Key × V)}(e:H a=some (.dK kvs)):TyOf K H (.ref a) (.type "dict")
 | dT {a:Addr}{kvs:List (List Key × V)}(e:H a=some (.dT kvs)):TyOf K H (.ref a) (.type "dict")
 | ins {a C dx:Addr}{fs:List (Str × V)}(e:H a=some (.ins C dx fs))(cl:Cls K C)(ha:PySem.W.findIn K (.ref C) "__class__"=some (some (.builtin "object.__class__")))
  (hn:PySem.W.specialIn K (.builtin "object.__class__") "__get__"=some (some (.builtin "getset_descriptor.__get__")))(htk:PySem.W.takesIn K (.builtin "object.__class__")=some true)
  (hm:PySem.W.mroIn K C (.type "object")=some true):TyOf K H (.ref a) (.ref C)
theorem tJ {x:V}{u t:Value}(I:Inv X pins σ H s)(rx:aB x u)(ty:TyOf X.K H x t)(e:PySem.W.kitOne X.K t c=some b)(h:∀ tk,Q (.bool b) { s with toks:=tk }):
 wpAny (model X.prog X.w) A (call (.builtin "isinstance") [u,c]) Q E s:=by
 cases ty with
 | non=>cases (show u=Value.none from rx); exact PySem.W.kia_one PySem.W.kitx_none I.kIn True.intro e (fun z=>nomatch z) h
 | bl y=>cases (show u=Value.bool y from rx); exact PySem.W.kia_one PySem.W.kitx_bool I.kIn True.intro e (fun z=>nomatch z) h
 | int i=>obtain ⟨t,q⟩:=(show ∃ t,u=Value.int i t from rx); cases q; exact PySem.W.kia_one PySem.W.kitx_int I.kIn True.intro e (fun z=>nomatch z) h
 | str y=>obtain ⟨t,q⟩:=(show ∃ t,u=Value.str y t from rx); cases q; exact PySem.W.kia_one PySem.W.kitx_str I.kIn True.intro e (fun z=>nomatch z) h
 | flt y=>obtain ⟨t,q⟩:=(show ∃ t,u=Value.float y t from rx); cases q; exact PySem.W.kia_one PySem.W.kitx_float I.kIn True.intro e (fun z=>nomatch z) h
 | @lst a xs ea =>
   cases (show u=Value.ref a from rx)
   obtain ⟨_,_,n,_,h1⟩:=(show bg X.prog X.w H s.heap a (.lst xs) from I.hok a _ ea)
   exact PySem.W.kia_one PySem.W.kitx_list I.kIn ⟨_,h1,rfl⟩ e (fun z=>nomatch z) h
 | @frz a ob xs ea =>
   cases (show u=Value.ref a from rx)
   obtain ⟨_,_,_,n,_,h1⟩:=(show bg X.prog X.w H s.heap a (.frz ob (.lst xs)) from I.hok a _ ea)
   exact PySem.W.kia_one PySem.W.kitx_list I.kIn ⟨_,h1,rfl⟩ e (fun z=>nomatch z) h
 | @tup a xs ea =>
   cases (show u=Value.ref a from rx)
   obtain ⟨_,_,_,p⟩:=(show bg X.prog X.w H s.heap a (.tup xs) from I.hok a _ ea)
   obtain ⟨o,h1,h2,_⟩:=p
   exact PySem.W.kia_one PySem.W.kitx_tuple I.kIn ⟨o,h1,h2⟩ e (fun z=>nomatch z) h
 | @dK a kvs ea =>
   cases (show u=Value.ref a from rx)
   obtain ⟨_,_,vs,_,p⟩:=(show bg X.prog X.w H s.heap a (.dK kvs) from I.hok a _ ea)
   obtain ⟨o,es,ep,h1,h2,_⟩:=p
   exact PySem.W.kia_one PySem.W.kitx_dict I.kIn ⟨o,h1,h2.1⟩ e (fun z=>nomatch z) h
 | @dT a kvs ea =>
   cases (show u=Value.ref a from rx)
   obtain ⟨_,_,xs,_,o,es,ep,h1,h2,_⟩:=(show bg X.prog X.w H s.heap a (.dT kvs) from I.hok a _ ea)
   exact PySem.W.kia_one PySem.W.kitx_dict I.kIn ⟨o,h1,h2.1⟩ e (fun z=>nomatch z) h
 | @ins a C dx fs ea cl ha hn htk hm =>
   cases (show u=Value.ref a from rx)
   obtain ⟨mA,O,_⟩:=fX I.hok ea
   obtain ⟨od,J,_⟩:=O.look
   exact PySem.W.kia_one (PySem.W.kitx_own (cl.get _) cl.hd ha hn htk hm) I.kIn J e (fun z=>nomatch z) h
end
structure Room (k:Nat)(A:Around):Prop where
 hd:A.handled=none
 dp:A.depth + 3 * k + 5 < recursionLimit
 un:A.units + 16 * k + 200 < cLine
 gd:A.guards=some []
theorem Room.mono {j k:Nat}{A:Around}(r:Room k A)(h:j≤k):Room j A:=⟨r.hd,by have:=r.dp; omega,by have:=r.un; omega,r.gd⟩
theorem Room.deeper {k:Nat}{A:Around}(r:Room (k + 1) A)(env:Env):Room k (A.deeper env):=
 ⟨r.hd,by have:=r.dp; show A.depth + 1 + 3 * k + 5 < _; omega,by have:=r.un; show A.units + 3 + 16 * k + 200 < _; omega,r.gd⟩
theorem Room.in1 {k:Nat}{A:Around}(r:Room (k + 1) A):Room k A.in1 :=
 ⟨r.hd,by have:=r.dp; show A.depth + 3 * k + 5 < _; omega,by have:=r.un; show A.units + 1 + 16 * k + 200 < _; omega,r.gd⟩
theorem p8 {A:Around}{C:Addr}{us:List Value}{kw:List (Str × Value)}:(A.under (.builtin "type.__call__" ⟨.ref C :: us,kw⟩)).depth=A.depth + 1:=by
 first | rfl | simp [Around.under,Code.weight,Code.isCreation,Code.isGuard,Code.isCaller,Code.frames,Code.isFrame,guardIds]
theorem oI {A:Around}{C:Addr}{us:List Value}{kw:List (Str × Value)}:(A.under (.builtin "type.__call__" ⟨.ref C :: us,kw⟩)).guards=A.guards:=by
 first | rfl | simp [Around.under,Code.guards,Code.isGuard,guardIds,pushGuards]
theorem pL {A:Around}{C:Addr}{us:List Value}{kw:List (Str × Value)}:(A.under (.builtin "type.__call__" ⟨.ref C :: us,kw⟩)).units=A.units + 1:=by
 first | rfl | simp [Around.under,Code.cUnits,Code.frames,Code.isFrame]
theorem Room.make {k:Nat}{A:Around}(r:Room (k + 1) A)(C:Addr)(us:List Value)(kw:List (Str × Value)):Room k (A.under (.builtin "type.__call__" ⟨.ref C :: us,kw⟩)):=
 ⟨r.hd,by have:=r.dp; rw [p8]; omega,by have:=r.un; rw [pL]; omega,by rw [oI]; exact r.gd⟩
theorem Room.depth {k:Nat}{A:Around}(r:Room k A):A.depth < recursionLimit:=by have:=r.dp; omega
theorem Room.units {k:Nat}{A:Around}(r:Room k A):A.units + 64 < cLine:=by have:=r.un; omega
theorem Room.units0 {k:Nat}{A:Around}(r:Room k A):A.units < cLine:=by have:=r.un; omega
noncomputable def tNil:TA:=fun _ H Q=>Q [] H
noncomputable def cf (ta:TE)(tr:TA):TA:=fun σ H Q=>ta σ H fun x H1=>tr σ H1 fun xs H2=>Q (x :: xs) H2
section
variable {X:Cx}{e:Expr}{es:List Expr}{te:TE}{t:TA}{pos:Pos}
theorem ad:PA X [] tNil:=fun _ _ _ _ H Q I h=>Calls.spliced_nil ⟨[],H,I,.nil,h⟩
theorem aR (ha:PE X e te)(hr:PA X es t)(hs:starEach (e :: es) X.env=(false,eval e X.env):: starEach es X.env:=by rfl):PA X (e :: es) (cf te t):=by
 intro pos pins s σ H Q I h
 rw [hs]
 show wpAny _ _ (spliced ((false,eval e X.env):: backTo pos (starEach es X.env))) _ _ s
 refine Calls.spliced_cons (bF (ha pins s σ H _ I h) fun u s1 ⟨x,H1,I1,r1,q1⟩=>?_)
 exact bF (hr pos pins s1 σ H1 _ I1 q1) fun us s2 ⟨xs,H2,I2,r2,q2⟩=>⟨x :: xs,H2,I2,.cons r1 r2,q2⟩
noncomputable def yx (t:TA):TE:=fun σ H Q=>t σ H fun xs H1=>xs.length≤sizeLine∧∀ p,H1 p=none->Q (.ref p) (upd H1 p (.tup xs))
noncomputable def zP (t:TA):TE:=fun σ H Q=>t σ H fun xs H1=>xs.length≤sizeLine∧∀ p,H1 p=none->Q (.ref p) (upd H1 p (.lst xs))
theorem bH {x1}(h:PA X es t):PE X (.Tuple es x1 pos) (yx t):=by
 intro pins s σ H Q I hq
 refine wpAny_Tuple_spliced (bF (h pos pins s σ H _ I hq) fun us s1 ⟨xs,H1,I1,r,z,q⟩=>⟨by rw [← r.length]; exact z,?_⟩)
 have hf:H1 s1.heap.objs.size=none:=I1.hok.fresh (Nat.le_refl _)
 refine ⟨.ref s1.heap.objs.size,upd H1 s1.heap.objs.size (.tup xs),I1.laid (t':=s1.toks) (fun b u e=>Heap.get?_push_of_some _ e) (Nat.le_refl _) ?_,rfl,q _ hf⟩
 exact ⟨z,us,r,⟨_,Heap.get?_push_size _ rfl,rfl,_,rfl⟩⟩
theorem bq (h:PA X es t):PE X (.List es pos) (zP t):=by
 intro pins s σ H Q I hq
 refine wpAny_List_spliced (bF (h pos pins s σ H _ I hq) fun us s1 ⟨xs,H1,I1,r,z,q⟩=>⟨by rw [← r.length]; exact z,?_⟩)
 have hf:H1 s1.heap.objs.size=none:=I1.hok.fresh (Nat.le_refl _)
 refine ⟨.ref s1.heap.objs.size,upd H1 s1.heap.objs.size (.lst xs),I1.laid (t':=s1.toks) (fun b u e=>Heap.get?_push_of_some _ e) (Nat.le_refl _) ?_,rfl,q _ hf⟩
 exact ⟨z,us,0,r,Heap.get?_push_size _ rfl⟩
end
noncomputable abbrev Sp:=List V->Hp->VK->XK->Prop
noncomputable abbrev CXT:=List Env->Hp->Shared->XK->Value->Shared->Prop
structure Env0 (P:Program)(w:World)(K:PySem.W.Frag)(mg:Str->Option Value)(base:Heap)(A:Around)(outer:List Env)(s:Shared)(H:Hp):Prop where
 frames:A.frames=some outer
 mod:Mod K mg base
 bs:∀ b o,base.get? b=some o->s.heap.get? b=some o∧H b=none
 bsz:base.objs.size≤s.heap.objs.size
 funs:s.heap.FunFrames base outer
 frf:∀ b∈dS outer,H b=none
 hok:eA P w H s.heap
 bare:AllBare s.gens
noncomputable def CE (outer:List Env)(P:Program)(w:World)(H:Hp)(s:Shared)(Q:VK)(u:Value)(s':Shared):Prop :=
 ∃ v H',s'.os=s.os∧AllBare s'.gens∧Un (dS outer) [] H H' s.heap s'.heap∧eA P w H' s'.heap∧aB v u∧Q v H'
noncomputable def CR (CX:CXT)(outer:List Env)(P:Program)(w:World)(H:Hp)(s:Shared)(Q:VK)(E:XK)(r:Result)(s':Shared):Prop :=
 match r with
 | .ok (.ret u)=>CE outer P w H s Q u s'
 | .ok _=>False
 | .error e=>CX outer H s E e s'
structure FnOk (P:Program)(w:World)(K:PySem.W.Frag)(mg:Str->Option Value)(base:Heap)(CX:CXT)(k:Nat)(f:Addr)(fd:FuncData)(ps:List Str)(sp:Sp):Prop where
 len:∀ vs H Q E,sp vs H Q E->vs.length=ps.length
 run:∀ (A:Around)(outer:List Env)(s:Shared)(H:Hp)(args:Args)(us:List Value)(vs:List V)(Q:VK)(E:XK),Room k A->Env0 P w K mg base A outer s H->BindsTo s fd args (ps.zip us)->aJ vs us->sp vs H Q E →
  codeAny (model P w) A (.call (.ref f) args) (CR CX outer P w H s Q E) s
theorem Env0.make {P:Program}{w:World}{K:PySem.W.Frag}{mg:Str->Option Value}{base:Heap}{A:Around}{outer:List Env}{s:Shared}{H:Hp}(e:Env0 P w K mg base A outer s H)(C:Addr)(us:List Value)(kw:List (Str × Value)):
 Env0 P w K mg base (A.under (.builtin "type.__call__" ⟨.ref C :: us,kw⟩)) outer s H:=⟨by first | exact e.frames | (simpa [Around.under,Code.envs,Code.isFrame,pushEnvs] using e.frames),e.mod,e.bs,e.bsz,e.funs,e.frf,e.hok,e.bare⟩
theorem Env0.in1 {P:Program}{w:World}{K:PySem.W.Frag}{mg:Str->Option Value}{base:Heap}{A:Around}{outer:List Env}{s:Shared}{H:Hp}(e:Env0 P w K mg base A outer s H):
 Env0 P w K mg base A.in1 outer s H:=⟨e.frames,e.mod,e.bs,e.bsz,e.funs,e.frf,e.hok,e.bare⟩
section
variable {X:Cx}{pins:List (Addr × Obj)}{σ:St}{H:Hp}{s s':Shared}
theorem Inv.env0 (I:Inv X pins σ H s):Env0 X.prog X.w X.K X.mg X.base X.A X.stack s H :=
 ⟨I.ok.frames,I.ok.mod,I.bs,Nat.le_trans I.ok.bsz I.sz,I.stack,I.stkFree,I.hok,I.bare⟩
theorem Inv.after {Q:VK}{u:Value}(I:Inv X pins σ H s)(h:CE X.stack X.prog X.w H s Q u s'):EP X pins σ Q u s':=by
 obtain ⟨v,H',os,bare,un,hok,r,q⟩:=h
 obtain ⟨hh,g,d,t,os'⟩:=s'
 obtain rfl:os'=s.os:=os
 exact ⟨v,H',I.call (h':=hh) (g':=g) (d':=d) (t':=t) (ch:=[]) un hok bare (fun b z=>absurd z (by simp)),r,q⟩
end
noncomputable def yR (sp:Sp)(dvs:List V)(E:XK)(t:TA):TE:=fun σ H Q=>t σ H fun vs H1=>sp (vs++dvs) H1 Q E
noncomputable def ze (C:Addr)(m:Str)(sp:Sp)(dvs:List V)(E:XK)(ta:TE)(t:TA):TE:=fun σ H Q=>ta σ H fun x H1=>∃ a dx fs,x = .ref a∧H1 a=some (.ins C dx fs)∧fs.lookup m=none ∧
 t σ H1 fun vs H2=>sp (x :: (vs++dvs)) H2 Q E
noncomputable def A9 (C:Addr)(sp:Sp)(dvs:List V)(E:XK)(t:TA):TE:=fun σ H Q=>t σ H fun vs H1=>∀ x dx,H1 x=none->H1 dx=none->dx≠x →
 sp (.ref x :: (vs++dvs)) (upd (upd H1 dx (.own x)) x (.ins C dx [])) (fun v H2=>v = .non∧Q (.ref x) H2) E
noncomputable def ax (K:PySem.W.Frag)(fd:FuncData)(ps:List Str)(ds:List Value):Prop :=
 ∀ (s:Shared)(us:List Value),K.In s.heap->(us++ds).length=ps.length->BindsTo s fd ⟨us,[]⟩ (ps.zip (us++ds))
theorem ax.all {K:PySem.W.Frag}{fd:FuncData}{ps:List Str}(h:∀ us:List Value,us.length=ps.length->bindArgs fd ⟨us,[]⟩=pure (ps.zip us)):ax K fd ps []:=fun s us _ hl=>by
 rw [List.append_nil] at hl ⊢
 exact .of_eq (h us hl)
noncomputable def dC (CX:CXT)(X:Cx)(E:XK):Prop:=∀ (pins:List (Addr × Obj))(σ:St)(H:Hp)(s:Shared)(e:Value)(s':Shared),Inv X pins σ H s->CX X.stack H s E e s'->X.xe e s'
section
variable {X:Cx}{CX:CXT}{k:Nat}{f C:Addr}{fd:FuncData}{ps:List Str}{sp:Sp}{dvs:List V}{ds:List Value}{E:XK}{x m:Str}{p pos apos:Pos}{e o:Expr}{es:List Expr}{ta:TE}{t:TA}
theorem pN {pins:List (Addr × Obj)}{σ:St}{H:Hp}{s:Shared}{Q:VK}{us:List Value}{vs:List V}(F:FnOk X.prog X.w X.K X.mg X.base CX k f fd ps sp)(hr:Room k X.A)(hb:ax X.K fd ps ds)(hd:aJ dvs ds)(hx:dC CX X E)
 (I:Inv X pins σ H s)(r:aJ vs us)(h:sp (vs++dvs) H Q E):wpAny (model X.prog X.w) X.A (call (.ref f) us) (EP X pins σ Q) X.xe s:=by
 have r2:aJ (vs++dvs) (us++ds):=r.append hd
 have hl:(us++ds).length=ps.length:=by rw [← r2.length]; exact F.len _ _ _ _ h
 refine wpAny_call (codeAny_mono (F.run X.A X.stack s H ⟨us,[]⟩ (us++ds) (vs++dvs) Q E hr I.env0 (hb s us I.kIn hl) r2 h) fun r s' hq=>?_)
 cases r with
 | error e=>exact hx pins σ H s e s' I hq
 | ok fl =>
   cases fl with
   | ret u=>exact I.after hq
   | next=>exact False.elim hq
   | brk=>exact False.elim hq
   | cont=>exact False.elim hq
theorem aq (F:FnOk X.prog X.w X.K X.mg X.base CX k f fd ps sp)(hr:Room k X.A)(hg:Gl X x)(hm:X.mg x=some (.ref f))(hk:PySem.W.keepIn X.K (.ref f)=true)(hb:ax X.K fd ps ds)(hd:aJ dvs ds)(hx:dC CX X E)
 (ha:PA X (e :: es) t)(hdb:(x == ("__debug__":Str))=false:=by decide)(he:starEach (e :: es) X.env=(false,eval e X.env):: starEach es X.env:=by rfl)(hpl:(backTo pos (starEach es X.env)).any (·.1)=false:=by rfl):
 PE X (.Call (.Name x p) (e :: es) [] pos) (yR sp dvs E t):=by
 intro pins s σ H Q I h
 refine wpAny_Call_Name_kw (eV I hg hm ?_ hdb)
 refine PySem.W.callWith_K (h₀:=X.base) I.ok.mod.kin hk (bF (ha pos pins s σ H _ I h) fun us s1 ⟨vs,H1,I1,r,q⟩=>⟨I1.kIn,?_⟩) he hpl
 exact pN F hr hb hd hx I1 r q
theorem dk {pl:Sem Bool}(he:PE X o ta)(c:Cls X.K C)(hm:Meth X.K C m f)(F:FnOk X.prog X.w X.K X.mg X.base CX k f fd ps sp)(hr:Room k X.A)(hb:ax X.K fd ps ds)(hd:aJ dvs ds)(hx:dC CX X E)(ha:PA X (e :: es) t)
 (hst:starEach (e :: es) X.env=(false,eval e X.env):: starEach es X.env:=by rfl)(hpl:(backTo pos (starEach es X.env)).any (·.1)=false:=by rfl)
 (ht:eval (.Call (.Attribute o m apos) (e :: es) [] pos) X.env=(do
  let ov ← eval o X.env
  standAt apos.atName
  let (f,first) ← holding [ov] (getMethod ov m pl)
  callWith pos f first (backTo pos (starEach (e :: es) X.env)) (backToKw pos (keywordEach [] X.env))):=by rfl):
 PE X (.Call (.Attribute o m apos) (e :: es) [] pos) (ze C m sp dvs E ta t):=by
 intro pins s σ H Q I h
 refine PySem.W.methodCall_KW (pl:=pl) (bF (he pins s σ H _ I h) fun u s1 ⟨x,H1,I1,rx,a,dx,fs,ex,ea,l,q⟩=>?_) ht
 subst ex
 obtain rfl:u=Value.ref a:=rx
 refine jS I1 ea c hm l ?_
 refine PySem.W.callWith_K (first:=[.ref a]) (h₀:=X.base) I.ok.mod.kin hm.kp (bF (ha pos pins s1 σ H1 _ I1 q) fun us s2 ⟨vs,H2,I2,r,q2⟩=>⟨I2.kIn,?_⟩) hst hpl
 exact pN (us:=.ref a :: us) (vs:=.ref a :: vs) F hr hb hd hx I2 (.cons rfl r) q2
theorem eC {pl:Sem Bool}(he:PE X o ta)(c:Cls X.K C)(hm:Meth X.K C m f)(F:FnOk X.prog X.w X.K X.mg X.base CX k f fd ps sp)(hr:Room k X.A)(hb:ax X.K fd ps ds)(hd:aJ dvs ds)(hx:dC CX X E)
 (ht:eval (.Call (.Attribute o m apos) [] [] pos) X.env=(do
  let ov ← eval o X.env
  standAt apos.atName
  let (f,first) ← holding [ov] (getMethod ov m pl)
  callWith pos f first (backTo pos (starEach [] X.env)) (backToKw pos (keywordEach [] X.env))):=by rfl):
 PE X (.Call (.Attribute o m apos) [] [] pos) (ze C m sp dvs E ta tNil):=by
 intro pins s σ H Q I h
 refine PySem.W.methodCall_KW (pl:=pl) (bF (he pins s σ H _ I h) fun u s1 ⟨x,H1,I1,rx,a,dx,fs,ex,ea,l,q⟩=>?_) ht
 subst ex
 obtain rfl:u=Value.ref a:=rx
 refine jS I1 ea c hm l ?_
 exact PySem.W.callWith_K0 (first:=[.ref a]) I1.kIn hm.kp (pN (us:=[.ref a]) (vs:=[.ref a]) F hr hb hd hx I1 (.cons rfl .nil) q)
structure Mk (K:PySem.W.Frag)(C f:Addr):Prop where
 makes:PySem.W.makesIn K C=true
 init:PySem.W.findIn K (.ref C) "__init__"=some (some (.ref f))
 fn:PySem.W.isFn K (.ref f)=true
 kp:PySem.W.keepIn K (.ref C)=true
theorem vb {pins:List (Addr × Obj)}{σ:St}{H:Hp}{s:Shared}{Q:VK}{us:List Value}{vs:List V}(M:Mk X.K C f)(F:FnOk X.prog X.w X.K X.mg X.base CX k f fd ps sp)(hr:Room (k + 1) X.A)(hb:ax X.K fd ps ds)(hd:aJ dvs ds)
 (hx:dC CX X E)(I:Inv X pins σ H s)(r:aJ vs us)
 (h:∀ x dx,H x=none->H dx=none->dx≠x->sp (.ref x :: (vs++dvs)) (upd (upd H dx (.own x)) x (.ins C dx [])) (fun v H2=>v = .non∧Q (.ref x) H2) E):
 wpAny (model X.prog X.w) X.A (call (.ref C) us) (EP X pins σ Q) X.xe s:=by
 have hq:=h (s.heap.objs.size + 1) s.heap.objs.size (I.hok.fresh (Nat.le_succ _)) (I.hok.fresh (Nat.le_refl _)) (Nat.ne_of_lt (Nat.lt_succ_self _))
 have I2:=Inv.made (C:=C) I
 have r2:aJ (V.ref (s.heap.objs.size + 1):: (vs++dvs)) (Value.ref (s.heap.objs.size + 1):: (us++ds)):=.cons rfl (r.append hd)
 have hl:(Value.ref (s.heap.objs.size + 1):: us++ds).length=ps.length:=by
  have e:=r2.length
  rw [F.len _ _ _ _ hq] at e
  exact e.symm
 refine wpAny_call (wu (f:=f) I.kIn M.makes M.init (beq_iff_eq.mp M.fn) (codeAny_mono (F.run _ X.stack _ _ ⟨Value.ref (s.heap.objs.size + 1):: us,[]⟩ (Value.ref (s.heap.objs.size + 1):: (us++ds)) _ _ E (hr.make C us [])
  (I2.env0.make C us []) (hb _ (Value.ref (s.heap.objs.size + 1):: us) I2.kIn hl) r2 hq) fun r s' hq'=>?_))
 cases r with
 | error e=>exact hx pins σ _ _ e s' I2 hq'
 | ok fl =>
   cases fl with
   | ret u =>
     obtain ⟨v,H',I3,rv,ev,q3⟩:=I2.after hq'
     subst ev
     exact ⟨rv,⟨V.ref (s.heap.objs.size + 1),H',I3,rfl,q3⟩⟩
   | next=>exact False.elim hq'
   | brk=>exact False.elim hq'
   | cont=>exact False.elim hq'
theorem nw (M:Mk X.K C f)(F:FnOk X.prog X.w X.K X.mg X.base CX k f fd ps sp)(hr:Room (k + 1) X.A)(hg:Gl X x)(hm:X.mg x=some (.ref C))(hb:ax X.K fd ps ds)(hd:aJ dvs ds)(hx:dC CX X E)
 (ha:PA X (e :: es) t)(hdb:(x == ("__debug__":Str))=false:=by decide)(he:starEach (e :: es) X.env=(false,eval e X.env):: starEach es X.env:=by rfl)(hpl:(backTo pos (starEach es X.env)).any (·.1)=false:=by rfl):
 PE X (.Call (.Name x p) (e :: es) [] pos) (A9 C sp dvs E t):=by
 intro pins s σ H Q I h
 refine wpAny_Call_Name_kw (eV I hg hm ?_ hdb)
 refine PySem.W.callWith_K (h₀:=X.base) I.ok.mod.kin M.kp (bF (ha pos pins s σ H _ I h) fun us s1 ⟨vs,H1,I1,r,q⟩=>⟨I1.kIn,?_⟩) he hpl
 exact vb M F hr hb hd hx I1 r q
end
noncomputable def PK (X:Cx)(kws:List Keyword)(t:TA):Prop :=
 ∀ (pos:Pos)(pins:List (Addr × Obj))(s:Shared)(σ:St)(H:Hp)(Q:List V->Hp->Prop),Inv X pins σ H s->t σ H Q->wpAny (model X.prog X.w) X.A (evalAll ((backToKw pos (keywordEach kws X.env)).map (·.2))) (AP X pins σ Q) X.xe s
section
variable {X:Cx}{CX:CXT}{k:Nat}{f C:Addr}{fd:FuncData}{ps ks:List Str}{sp:Sp}{E:XK}{x m:Str}{p pos apos kpos:Pos}{e o:Expr}{es:List Expr}{kws:List Keyword}{te ta:TE}{t tk:TA}{nm:Option Str}
theorem zW:PK X [] tNil:=fun _ _ _ _ H Q I h=>wpAny_evalAll_nil ⟨[],H,I,.nil,h⟩
theorem xF (ha:PE X e te)(hr:PK X kws t):PK X (⟨nm,e,kpos⟩ :: kws) (cf te t):=by
 intro pos pins s σ H Q I h
 show wpAny _ _ (evalAll ((do let v ← eval e X.env; standAt pos; pure v):: (backToKw pos (keywordEach kws X.env)).map (·.2))) _ _ s
 refine wpAny_evalAll_cons (wpAny_bind (bF (ha pins s σ H _ I h) fun u s1 ⟨x,H1,I1,r1,q1⟩=>wpAny_bind (wpAny_standAt (wpAny_pure ?_))))
 exact bF (hr pos pins s1 σ H1 _ I1 q1) fun us s2 ⟨xs,H2,I2,r2,q2⟩=>⟨x :: xs,H2,I2,.cons r1 r2,q2⟩
variable {g:List Value->List Value->List Value}{gV:List V->List V->List V}
end
structure FnScope (N P:List Str)(sc:Scope):Prop where
 kind:sc.kind = .function
 co:sc.isCoroutine=false
 gen:sc.isGenerator=false
 nd:N.Nodup
 pre:N.take P.length=P
 par:∀ x∈P,sc.names.lookup x=some .local∨sc.names.lookup x=some .cell
 nofree:∀ y∈sc.names,y.2 ≠ .free
theorem my {kindOf:Str->Option NameKind}{x:Str}:∀ {binds:List (Str × Value)}{m:Str->Option Value},(∀ v,(x,v) ∉ binds)->bindL kindOf binds m x=m x
 | [],_,_=>rfl
 | (n,v):: r,m,h=>by
   unfold bindL
   rw [my fun w hw=>h w (List.mem_cons_of_mem _ hw)]
   split
   ·have:x≠n:=by rintro rfl; exact h v List.mem_cons_self
    simp [this]
   ·rfl
theorem ml {kindOf:Str->Option NameKind}{x:Str}:∀ {binds:List (Str × Value)}{m:Str->Option Value},(∀ v,(x,v) ∉ binds)->bindC kindOf binds m x=m x
 | [],_,_=>rfl
 | (n,v):: r,m,h=>by
   unfold bindC
   rw [ml fun w hw=>h w (List.mem_cons_of_mem _ hw)]
   split
   ·rfl
   ·have:x≠n:=by rintro rfl; exact h v List.mem_cons_self
    simp [this]
theorem mi {kindOf:Str->Option NameKind}{x:Str}{v:Value}:∀ {P:List Str}{vs:List Value}{i:Nat}{m:Str->Option Value},P.Nodup->P[i]?=some x->vs[i]?=some v->kindOf x=some .local →
 bindL kindOf (P.zip vs) m x=some v
 | [],_,_,_,_,h,_,_=>by simp at h
 | _ :: _,[],_,_,_,_,h,_=>by simp at h
 | p :: P,w :: vs,0,m,nd,h1,h2,hk=>by
   simp at h1 h2; subst h1; subst h2
   show bindL kindOf ((p,w):: P.zip vs) m p=_
   unfold bindL
   rw [my fun v hv=>(List.nodup_cons.mp nd).1 (List.of_mem_zip hv).1,if_pos hk]
   simp
 | p :: P,w :: vs,i + 1,m,nd,h1,h2,hk=>by
   show bindL kindOf ((p,w):: P.zip vs) m x=_
   unfold bindL
   exact mi (i:=i) (List.nodup_cons.mp nd).2 (by simpa using h1) (by simpa using h2) hk
theorem mv {kindOf:Str->Option NameKind}{x:Str}{v:Value}:∀ {P:List Str}{vs:List Value}{i:Nat}{m:Str->Option Value},P.Nodup->P[i]?=some x->vs[i]?=some v->kindOf x≠some .local →
 bindC kindOf (P.zip vs) m x=some v
 | [],_,_,_,_,h,_,_=>by simp at h
 | _ :: _,[],_,_,_,_,h,_=>by simp at h
 | p :: P,w :: vs,0,m,nd,h1,h2,hk=>by
   simp at h1 h2; subst h1; subst h2
   show bindC kindOf ((p,w):: P.zip vs) m p=_
   unfold bindC
   rw [ml fun v hv=>(List.nodup_cons.mp nd).1 (List.of_mem_zip hv).1,if_neg hk]
   simp
 | p :: P,w :: vs,i + 1,m,nd,h1,h2,hk=>by
   show bindC kindOf ((p,w):: P.zip vs) m x=_
   unfold bindC
   exact mv (i:=i) (List.nodup_cons.mp nd).2 (by simpa using h1) (by simpa using h2) hk
noncomputable def fH (N:List Str)(vs:List V):St:=vs.map some++List.replicate (N.length - vs.length) none
noncomputable def gr (CX:CXT)(P:Program)(w:World)(K:PySem.W.Frag)(mg:Str->Option Value)(base:Heap)(N:List Str)(qual:Str)(scope:Scope)(f:Addr)(cd:Value)(A:Around)(outer:List Env)(s:Shared)(H:Hp)(E:XK):Cx where
 prog:=P
 w:=w
 K:=K
 mg:=mg
 base:=base
 A:=A.deeper (envOfC qual scope s.heap.objs.size f cd)
 N:=N
 s₀:=s
 H₀:=H
 env:=envOfC qual scope s.heap.objs.size f cd
 outer:=outer
 stack:=envOfC qual scope s.heap.objs.size f cd :: outer
 ex:=[]
 calm:=true
 fn:=fun _=>true
 pn:=[]
 xe:=fun e s'=>wpAny (model P w) (A.deeper (envOfC qual scope s.heap.objs.size f cd)) (leaving (envOfC qual scope s.heap.objs.size f cd) e) (fun _ s''=>CX outer H s E e s'') (fun e' s''=>CX outer H s E e' s'') s'
theorem pb {sc:Scope}{n:Nat}{x:Str}(h:sc.names.lookup x=some .cell):∃ c,(cellsFrom n sc.names []).lookup x=some c:=by
 have q:=PySem.W.cellsFrom_some sc.names n [] (.inl h)
 exact Option.isSome_iff_exists.mp q
theorem uH {CX:CXT}{P:Program}{w:World}{K:PySem.W.Frag}{mg:Str->Option Value}{base:Heap}{N ps:List Str}{qual:Str}{scope:Scope}{f:Addr}{cd:Value}{A:Around}{outer:List Env}{s s1:Shared}{H:Hp}{E:XK}{us:List Value}{vs:List V}
 (S:FnScope N ps scope)(hd:A.handled=none)(e0:Env0 P w K mg base A outer s H)(hl:vs.length=ps.length)(r:aJ vs us)
 (x:InCallC s s.heap.objs.size (bindL (envOfC qual scope s.heap.objs.size f cd).kindOf (ps.zip us) fun _=>none) (cellsFrom (s.heap.objs.size + 1) scope.names []) (bindC (envOfC qual scope s.heap.objs.size f cd).kindOf (ps.zip us) fun _=>none) s1):
 Inv (gr CX P w K mg base N qual scope f cd A outer s H E) [] (fH N vs) H s1:=by
 have hpl:ps.length≤N.length:=by have:=congrArg List.length S.pre; rw [List.length_take] at this; omega
 obtain ⟨h1,tk,rfl,hk⟩:=x.done
 have noA:∀ b:Addr,b ∉ (gr CX P w K mg base N qual scope f cd A outer s H E).ex:=fun b z=>absurd (show b∈([]:List Addr) from z) (by simp)
 refine ⟨⟨e0.mod,S.kind,rfl,rfl,Nat.le_refl _,fun y z c h1 h2=>?_,fun y hy=>?_,fun y c _ h=>?_,fun _=>hd,Around.frames_deeper e0.frames,.inr ⟨rfl,rfl⟩,fun b z=>absurd z (noA b),e0.bs,e0.bsz,fun b _ _=>noA b,fun b z=>absurd z (noA b),e0.funs,e0.frf⟩,
  rfl,e0.bare,Un.kept hk,⟨_,x.toInCall.ns,fun i y v h1 h2 h3=>?_⟩,fun y c h=>⟨_,x.cell y c h⟩,e0.hok.fresh (Nat.le_refl _),fun y c h=>?_,fun p hp=>absurd (show p∈([]:List (Addr × Obj)) from hp) (by simp),e0.hok.kept hk,?_⟩
 ·exact name_of_addr x.apart (PySem.mem_of_lookup h1) (PySem.mem_of_lookup h2)
 ·have hy:scope.names.lookup y=some .cell∨scope.names.lookup y=some .free:=hy
  rcases hy with hy | hy
  ·exact pb hy
  ·exact absurd rfl (S.nofree _ (PySem.mem_of_lookup hy))
 ·exact Nat.le_of_lt (x.above y c (PySem.mem_of_lookup h))
 ·have hi:i < vs.length:=by
   unfold fH at h2
   by_cases hi:i < vs.length
   ·exact hi
   ·rw [List.getElem?_append_right (by simpa using hi)] at h2
    rw [List.getElem?_replicate] at h2
    split at h2 <;> cases h2
  have ha:vs[i]?=some v:=by
   unfold fH at h2
   rw [List.getElem?_append_left (by simpa using hi),List.getElem?_map] at h2
   cases e:vs[i]? with
   | none=>rw [e] at h2; cases h2
   | some a=>rw [e] at h2; cases h2; rfl
  obtain ⟨u,hu,rv⟩:=r.get ha
  have hp:ps[i]?=some y:=by
   rw [← S.pre,List.getElem?_take_of_lt (by omega)]; exact h1
  have ndP:ps.Nodup:=by rw [← S.pre]; exact S.nd.sublist (List.take_sublist _ _)
  refine ⟨u,rv,?_⟩
  rcases S.par y (List.mem_of_getElem? hp) with k | k
  ·exact .inl ⟨k,mi ndP hp hu k⟩
  ·obtain ⟨c,e⟩:=pb (n:=s.heap.objs.size + 1) k
   refine .inr ⟨.inl k,c,e,?_⟩
   have q:=x.cell y c e
   rw [mv ndP hp hu (by show scope.names.lookup y≠_; rw [k]; decide)] at q
   exact q
 ·exact e0.hok.fresh (Nat.le_of_lt (x.above y c (PySem.mem_of_lookup h)))
 ·unfold fH
  show _=N.length
  rw [List.length_append,List.length_map,List.length_replicate]
  omega
theorem rV {CX:CXT}{P:Program}{w:World}{K:PySem.W.Frag}{mg:Str->Option Value}{base:Heap}{k:Nat}{f:Addr}{name qual:Str}{params:Arguments}{body:List Stmt}{scope:Scope}{dV kV doc pm cdv ct oc:Value}{an od:Option Addr}
 {osl:Array (Option Value)}{N ps:List Str}{sp:Sp}(lk:K.lookup f=some ⟨oc,od,.func (PySem.W.fnOf name qual params body scope dV kV doc pm an cdv ct),osl⟩)(hcd:PySem.W.codeIn K cdv qual=true)(S:FnScope N ps scope)
 (len:∀ vs H Q E,sp vs H Q E->vs.length=ps.length)
 (hbody:∀ (A:Around)(outer:List Env)(s:Shared)(H:Hp)(vs:List V)(Q:VK)(E:XK),Room k (A.deeper (envOfC qual scope s.heap.objs.size f cdv))->sp vs H Q E →
  ∃ t,ja (gr CX P w K mg base N qual scope f cdv A outer s H E) body t∧t { nx:=fun _ H'=>Q .non H',rt:=Q } (fH N vs) H):
 FnOk P w K mg base CX (k + 1) f (PySem.W.fnOf name qual params body scope dV kV doc pm an cdv ct) ps sp:=by
 refine ⟨len,fun A outer s H args us vs Q E hr e0 hb r hsp=>?_⟩
 have hl:=len _ _ _ _ hsp
 have KX:K.In s.heap:=e0.mod.kin.keeps fun b o e=>(e0.bs b o e).1
 have lim:s.heap.NoLimit:=e0.mod.nolimit.keeps fun b o e=>(e0.bs b o e).1
 have hkind:∀ y∈ps.zip us,scope.names.lookup y.1=some .local∨(scope.names.lookup y.1=some .cell∧((cellsFrom (s.heap.objs.size + 1) scope.names []).lookup y.1).isSome=true):=fun ⟨n,v⟩ hy=>by
  rcases S.par n (List.of_mem_zip hy).1 with q | q
  ·exact .inl q
  ·exact .inr ⟨q,PySem.W.cellsFrom_some _ _ _ (.inl q)⟩
 refine codeAny_call_function hr.depth (KX _ _ lk) rfl S.co S.gen rfl (PySem.W.codeRec_of KX hcd) (hb _ _ _ _ ?_)
 refine wpAny_newFunctionEnv_cells S.kind hkind fun env he s1 x=>?_
 subst he
 refine ⟨lim.keeps x.toInCall.keep,codeAny_func ?_⟩
 obtain ⟨t,ht,hq⟩:=hbody A outer s H vs Q E (hr.deeper _) hsp
 have I:Inv (gr CX P w K mg base N qual scope f cdv A outer s H E) [] (fH N vs) H s1:=uH S hr.hd e0 hl r x
 refine wpAny_mono (ht [] s1 (fH N vs) H _ I hq) (fun fl s' hs=>?_) fun e s' hs=>hs
 have fin:∀ {σ':St}{H':Hp}{v:V}{u:Value},Inv (gr CX P w K mg base N qual scope f cdv A outer s H E) [] σ' H' s'->aB v u->Q v H'->CE outer P w H s Q u s' :=
  fun {σ' H' v u} J rv q=>⟨v,H',J.os,J.bare,J.base,J.hok,rv,q⟩
 cases fl with
 | ret u =>
   obtain ⟨v,σ',H',J,rv,q⟩:=hs
   exact fin J rv q
 | next =>
   obtain ⟨σ',H',J,q⟩:=hs
   exact fin (v:=V.non) (u:=Value.none) J rfl q
 | brk =>
   obtain ⟨_,_,_,q⟩:=hs
   exact False.elim q
 | cont =>
   obtain ⟨_,_,_,q⟩:=hs
   exact False.elim q
section
variable {X:Cx}{x:Str}{p pos:Pos}{e:Expr}{es:List Expr}{t:TA}{id T:String}{r:List V->Hp->VK->Prop}
noncomputable def AG (r:List V->Hp->VK->Prop)(t:TA):TE:=fun σ H Q=>t σ H fun vs H1=>r vs H1 Q
theorem ar (hc:cR X (.builtin id) r)(hg:Gl X x)(hm:X.mg x=none)(hv:bootBuiltins x=some (.builtin id))(ha:PA X (e :: es) t)(hn:x ≠ "__name__":=by decide)(hdb:(x == ("__debug__":Str))=false:=by decide)
 (he:starEach (e :: es) X.env=(false,eval e X.env):: starEach es X.env:=by rfl)(hpl:(backTo pos (starEach es X.env)).any (·.1)=false:=by rfl):PE X (.Call (.Name x p) (e :: es) [] pos) (AG r t):=by
 intro pins s σ H Q I h
 refine wpAny_Call_Name_kw (du I hg hm hv ?_ hn hdb)
 exact PyProof.Rows.callWith_builtin1 (bF (ha pos pins s σ H _ I h) fun us s1 ⟨vs,H1,I1,r1,q1⟩=>hc pins s1 σ H1 vs us Q I1 r1 q1) he hpl
theorem b8 (hc:cR X (.type T) r)(hg:Gl X x)(hm:X.mg x=none)(hv:bootBuiltins x=some (.type T))(ha:PA X (e :: es) t)(hn:x ≠ "__name__":=by decide)(hdb:(x == ("__debug__":Str))=false:=by decide)
 (he:starEach (e :: es) X.env=(false,eval e X.env):: starEach es X.env:=by rfl)(hpl:(backTo pos (starEach es X.env)).any (·.1)=false:=by rfl):PE X (.Call (.Name x p) (e :: es) [] pos) (AG r t):=by
 intro pins s σ H Q I h
 refine wpAny_Call_Name_kw (du I hg hm hv ?_ hn hdb)
 exact PyProof.Rows.callWith_type1 (bF (ha pos pins s σ H _ I h) fun us s1 ⟨vs,H1,I1,r1,q1⟩=>hc pins s1 σ H1 vs us Q I1 r1 q1) he hpl
end
section
variable {κ:Type} [DecidableEq κ]
noncomputable def il (kvs:List (κ × V))(k:κ):Option V:=(kvs.find? fun kv=>decide (kv.1=k)).map (·.2)
noncomputable def eL (kvs:List (κ × V))(k:κ)(v:V):List (κ × V):=
 if (kvs.any fun kv=>decide (kv.1=k))=true then kvs.map (fun kv=>if kv.1=k then (kv.1,v) else kv) else kvs++[(k,v)]
theorem hZ {p:κ × V}{r:List (κ × V)}{k:κ}(e:p.1=k):il (p :: r) k=some p.2:=by simp [il,List.find?_cons,e]
theorem fF {p:κ × V}{r:List (κ × V)}{k:κ}(e:¬ p.1=k):il (p :: r) k=il r k:=by simp [il,List.find?_cons,e]
theorem jY (k:κ):∀ kvs:List (κ × V),(kvs.any fun kv=>decide (kv.1=k))=(il kvs k).isSome
 | []=>rfl
 | p :: r=>by
   rw [List.any_cons]
   by_cases e:p.1=k
   ·simp only [hZ e,decide_eq_true e,Bool.true_or,Option.isSome_some]
   ·rw [fF e,decide_eq_false e,Bool.false_or]; exact jY k r
theorem i6 (kvs:List (κ × V))(k:κ)(v:V):(eL kvs k v).length≤kvs.length + 1:=by
 unfold eL
 split
 ·rw [List.length_map]; omega
 ·rw [List.length_append,List.length_cons,List.length_nil]; omega
theorem fe.isSome_eq {o:Option V}{u:Option Value}(r:fe o u):o.isSome=u.isSome:=by
 cases o with
 | none=>cases u with
   | none=>rfl
   | some _=>exact (show False from r).elim
 | some _=>cases u with
   | none=>exact (show False from r).elim
   | some _=>rfl
theorem fe.getD {o:Option V}{u:Option Value}{d:V}{d':Value}(r:fe o u)(rd:aB d d'):aB (o.getD d) (u.getD d'):=by
 cases o with
 | none=>cases u with
   | none=>exact rd
   | some _=>exact (show False from r).elim
 | some _=>cases u with
   | none=>exact (show False from r).elim
   | some _=>exact r
theorem KV.val {kvs:List (κ × V)}{vs:List (κ × Value)}(r:KV kvs vs)(k:κ):fe (il kvs k) (valueAt vs k):=by
 unfold KV at r
 induction r with
 | nil=>exact True.intro
 | @cons p q ps qs h t ih =>
   obtain ⟨h1,h2⟩:=h
   by_cases e:p.1=k
   ·have e':q.1=k:=h1.symm.trans e
    have b:valueAt (q :: qs) k=some q.2:=by simp [valueAt,List.find?_cons,e']
    rw [hZ e,b]; exact h2
   ·have e':¬ q.1=k:=fun z=>e (h1.trans z)
    have b:valueAt (q :: qs) k=valueAt qs k:=by simp [valueAt,List.find?_cons,e']
    rw [fF e,b]; exact ih
theorem KV.any {kvs:List (κ × V)}{vs:List (κ × Value)}(r:KV kvs vs)(k:κ):(kvs.any fun kv=>decide (kv.1=k))=vs.any fun kv=>decide (kv.1=k):=by
 unfold KV at r
 induction r with
 | nil=>rfl
 | cons h t ih=>rw [List.any_cons,List.any_cons,ih,h.1]
theorem KV.repl {kvs:List (κ × V)}{vs:List (κ × Value)}(r:KV kvs vs)(k:κ){y:V}{u:Value}(ry:aB y u):
 KV (kvs.map fun kv=>if kv.1=k then (kv.1,y) else kv) (vs.map fun kv=>if kv.1=k then (kv.1,u) else kv):=by
 unfold KV at r ⊢
 induction r with
 | nil=>exact .nil
 | @cons p q ps qs h t ih =>
   rw [List.map_cons,List.map_cons]
   refine .cons ?_ ih
   obtain ⟨h1,h2⟩:=h
   by_cases e:p.1=k
   ·rw [if_pos e,if_pos (h1.symm.trans e)]; exact ⟨h1,ry⟩
   ·rw [if_neg e,if_neg (fun z=>e (h1.trans z))]; exact ⟨h1,h2⟩
theorem KV.put {kvs:List (κ × V)}{vs:List (κ × Value)}(r:KV kvs vs)(k:κ){y:V}{u:Value}(ry:aB y u):KV (eL kvs k y) (stored vs k u):=by
 unfold eL stored
 rw [r.any k]
 by_cases e:(vs.any fun kv=>decide (kv.1=k))=true
 ·rw [if_pos e,if_pos e]; exact r.repl k ry
 ·rw [if_neg e,if_neg e]; exact Paired.snoc r ⟨rfl,ry⟩
theorem KV.length {kvs:List (κ × V)}{vs:List (κ × Value)}(r:KV kvs vs):kvs.length=vs.length:=Paired.length r
end
theorem o0 {P:Program}{w:World}{k:Key}{u:Value}(r:aB (kV k) u):(bZ P w).is k u=true:=by
 cases k with
 | inl i=>obtain ⟨t,e⟩:=(show ∃ t,u=Value.int i t from r); subst e; exact pC P w i t
 | inr x=>obtain ⟨t,e⟩:=(show ∃ t,u=Value.str x t from r); subst e; exact n9 P w x t
theorem mz {P:Program}{w:World}:∀ {ks:List Key}{us:List Value},aJ (ks.map kV) us->ItemsAre (bZ P w) ks us
 | [],_,r=>by rw [List.map_nil] at r; cases r; exact .nil
 | k :: ks,_,r=>by
   rw [List.map_cons] at r
   cases r with
   | cons h t=>exact .cons (o0 h) (mz t)
noncomputable abbrev KT (H:Hp):List (List Key × V)->List (List Key × Addr × Value)->Prop:=Paired fun p q=>p.1=q.1∧H q.2.1=some (.tup (p.1.map kV))∧aB p.2 q.2.2
theorem KT.val {H:Hp}{kvs:List (List Key × V)}{xs:List (List Key × Addr × Value)}(r:KT H kvs xs)(k:List Key):fe (il kvs k) ((atKey xs k).map (·.2)):=by
 induction r with
 | nil=>exact True.intro
 | @cons p q ps qs h t ih =>
   obtain ⟨h1,_,h2⟩:=h
   by_cases e:p.1=k
   ·have e':q.1=k:=h1.symm.trans e
    have b:atKey (q :: qs) k=some q.2:=by simp [atKey,List.find?_cons,e']
    rw [hZ e,b]; exact h2
   ·have e':¬ q.1=k:=fun z=>e (h1.trans z)
    have b:atKey (q :: qs) k=atKey qs k:=by simp [atKey,List.find?_cons,e']
    rw [fF e,b]; exact ih
theorem KT.repl {H:Hp}{kvs:List (List Key × V)}{xs:List (List Key × Addr × Value)}(r:KT H kvs xs)(k:List Key){y:V}{u:Value}(ry:aB y u):
 KT H (kvs.map fun kv=>if kv.1=k then (kv.1,y) else kv) (xs.map (putAt k u)):=by
 induction r with
 | nil=>exact .nil
 | @cons p q ps qs h t ih =>
   rw [List.map_cons,List.map_cons]
   refine .cons ?_ ih
   obtain ⟨h1,h2,h3⟩:=h
   unfold putAt
   by_cases e:p.1=k
   ·rw [if_pos e,if_pos (h1.symm.trans e)]; exact ⟨h1,h2,ry⟩
   ·rw [if_neg e,if_neg (fun z=>e (h1.trans z))]; exact ⟨h1,h2,h3⟩
theorem KT.put {H:Hp}{kvs:List (List Key × V)}{xs:List (List Key × Addr × Value)}(r:KT H kvs xs)(k:List Key){b:Addr}{y:V}{u:Value}(hb:H b=some (.tup (k.map kV)))(ry:aB y u):
 KT H (eL kvs k y) (storedH xs k b u):=by
 have e:(kvs.any fun kv=>decide (kv.1=k))=(atKey xs k).isSome:=by
  rw [jY,(r.val k).isSome_eq,Option.isSome_map]
 unfold eL storedH
 rw [e]
 by_cases q:(atKey xs k).isSome=true
 ·rw [if_pos q,if_pos q]; exact r.repl k ry
 ·rw [if_neg q,if_neg q]; exact Paired.snoc r ⟨rfl,hb,ry⟩
theorem KT.keeps {H H':Hp}{kvs:List (List Key × V)}{xs:List (List Key × Addr × Value)}(r:KT H kvs xs)(ht:∀ b ys,H b=some (.tup ys)->H' b=some (.tup ys)):KT H' kvs xs :=
 Paired.mapP r fun _ _ z=>⟨z.1,ht _ _ z.2.1,z.2.2⟩
section
variable {P:Program}{w:World}{H:Hp}{h:Heap}{a:Addr}
theorem zg {u:HO}(ok:eA P w H h)(e:Rd H a u):bg P w H h a u:=e.ok ok
theorem jV {kvs:List (Key × V)}(ok:eA P w H h)(e:Rd H a (.dK kvs)):kvs.length≤sizeLine∧(a == sysModules)=false∧∃ vs,KV kvs vs∧h.DictOf (bZ P w) a vs :=
 show bg P w H h a (.dK kvs) from zg ok e
theorem Bi {kvs:List (Key × V)}(ok:eA P w H h)(e:H a=some (.dK kvs)):kvs.length≤sizeLine∧(a == sysModules)=false∧∃ vs,KV kvs vs∧h.DictOf (bZ P w) a vs:=jV ok (.inl e)
theorem jJ {ks:List Key}(ok:eA P w H h)(e:H a=some (.tup (ks.map kV))):(tupleKind (bZ P w)).is h ks a:=by
 obtain ⟨_,its,r,o,h1,h2,n,h3⟩:=(show bg P w H h a (.tup (ks.map kV)) from ok a _ e)
 exact ⟨o,its.toArray,n,h1,h2,h3,by simpa using mz r⟩
theorem lP {kvs:List (List Key × V)}(ok:eA P w H h)(e:Rd H a (.dT kvs)):kvs.length≤sizeLine∧(a == sysModules)=false ∧
 ∃ xs,KT H kvs xs∧h.DictOfH (tupleKind (bZ P w)) a xs:=by
 obtain ⟨z,y,xs,r,o,es,ep,h1,h2,h3,h4,h5⟩:=(show bg P w H h a (.dT kvs) from zg ok e)
 refine ⟨z,y,xs,r,o,es,ep,h1,h2,h3,h4,fun x hx=>?_,h5⟩
 have all:∀ {l:List (List Key × V)}{m:List (List Key × Addr × Value)},KT H l m->∀ x∈m,(tupleKind (bZ P w)).is h x.1 x.2.1:=by
  intro l m q
  induction q with
  | nil=>intro x hx; exact nomatch hx
  | @cons p q ps qs hq t ih =>
    intro x hx
    rcases List.mem_cons.mp hx with e | hx
    ·subst e
     exact jJ ok (by rw [← hq.1]; exact hq.2.1)
    ·exact ih x hx
 exact all r x hx
theorem AS {kvs:List (List Key × V)}(ok:eA P w H h)(e:H a=some (.dT kvs)):kvs.length≤sizeLine∧(a == sysModules)=false ∧
 ∃ xs,KT H kvs xs∧h.DictOfH (tupleKind (bZ P w)) a xs:=lP ok (.inl e)
end
noncomputable def ir (H:Hp)(a:Addr)(y:V)(r:Option V):Prop :=
 (∃ kvs k,Rd H a (.dK kvs)∧y=kV k∧r=il kvs k)∨∃ kvs k b,Rd H a (.dT kvs)∧y = .ref b∧H b=some (.tup (k.map kV))∧r=il kvs k
noncomputable def pF (H:Hp)(a:Addr)(y v:V)(H':Hp):Prop :=
 (∃ kvs k,H a=some (.dK kvs)∧y=kV k∧kvs.length < sizeLine∧H'=upd H a (.dK (eL kvs k v))) ∨
 ∃ kvs k b,H a=some (.dT kvs)∧y = .ref b∧H b=some (.tup (k.map kV))∧kvs.length < sizeLine∧H'=upd H a (.dT (eL kvs k v))
theorem ir.t {H:Hp}{a b:Addr}{kvs:List (List Key × V)}{k:List Key}(e:H a=some (.dT kvs))(eb:H b=some (.tup (k.map kV))):ir H a (.ref b) (il kvs k):=.inr ⟨kvs,k,b,.inl e,rfl,eb,rfl⟩
theorem pF.t {H:Hp}{a b:Addr}{kvs:List (List Key × V)}{k:List Key}{v:V}(e:H a=some (.dT kvs))(eb:H b=some (.tup (k.map kV)))(hl:kvs.length < sizeLine):
 pF H a (.ref b) v (upd H a (.dT (eL kvs k v))):=.inr ⟨kvs,k,b,e,rfl,eb,hl,rfl⟩
section
variable {X:Cx}{pins:List (Addr × Obj)}{σ:St}{H:Hp}{s:Shared}{a:Addr}{y v:V}{u r:Value}{o:Option V}{A:Around}{E:Value->Shared->Prop}
theorem Inv.big (I:Inv X pins σ H s):sysModules < s.heap.objs.size:=by
 have h:mainGlobals < s.heap.objs.size:=(I.mod.glob.keeps I.bk).lt
 exact Nat.lt_trans (by decide) h
theorem t7 {Q:Value->Shared->Prop}(hu:A.units + 1 < cLine)(I:Inv X pins σ H s)(g:ir H a y (some v))(ry:aB y u)(h:∀ w' s',Inv X pins σ H s'->aB v w'->Q w' s'):
 wpAny (model X.prog X.w) A (getItem (.ref a) u) Q E s:=by
 rcases g with ⟨kvs,k,e,ey,l⟩ | ⟨kvs,k,b,e,ey,eb,l⟩
 ·subst ey
  obtain ⟨z,hd,vs,rel,dd⟩:=jV I.hok e
  obtain ⟨w',hw,rw'⟩:=fe.some_of (v:=v) (o:=valueAt vs k) (by rw [l]; exact rel.val k)
  exact wpAny_getItem_of (o0 ry) dd.mapOf hw (h w' _ (I.tok _) rw')
 ·subst ey
  cases (show u=Value.ref b from ry)
  obtain ⟨z,hd,xs,rel,dd⟩:=lP I.hok e
  obtain ⟨w',hw,rw'⟩:=fe.some_of (v:=v) (o:=(atKey xs k).map (·.2)) (by rw [l]; exact rel.val k)
  obtain ⟨p,hp,hp2⟩:=Option.map_eq_some_iff.mp hw
  refine wpAny_getItem_heap (tupleKind_room_in1 hu) (jJ I.hok eb) dd hp ?_
  rw [hp2]
  exact h w' _ (I.tok _) rw'
theorem Cj {Q:Value->Shared->Prop}(hu:A.units + 1 < cLine)(I:Inv X pins σ H s)(g:ir H a y o)(ry:aB y u)(h:∀ s',Inv X pins σ H s'->Q (.bool o.isSome) s'):
 wpAny (model X.prog X.w) A (compareOp .In u (.ref a)) Q E s:=by
 rcases g with ⟨kvs,k,e,ey,l⟩ | ⟨kvs,k,b,e,ey,eb,l⟩
 ·subst ey
  obtain ⟨z,hd,vs,rel,dd⟩:=jV I.hok e
  refine wpAny_in_of (o0 ry) hd dd.mapOf ?_
  rw [← (rel.val k).isSome_eq,← l]
  exact h _ (I.tok _)
 ·subst ey
  cases (show u=Value.ref b from ry)
  obtain ⟨z,hd,xs,rel,dd⟩:=lP I.hok e
  refine wpAny_in_heap (tupleKind_room_in1 hu) (jJ I.hok eb) hd dd ?_
  have q:=(rel.val k).isSome_eq
  rw [Option.isSome_map] at q
  rw [← q,← l]
  exact h _ (I.tok _)
theorem rM {h':Heap}{t':Nat}{ob:HO}(I:Inv X pins σ H s)(mu:Bf (H a))(hs:Heap.SameBut a s.heap h')(he:∃ q,h'.get? a=some q)(new:bg X.prog X.w (upd H a ob) h' a ob):
 Inv X pins σ (upd H a ob) { s with heap:=h',toks:=t' }:=
 I.write (x:=a) (e:=a) mu (.inl rfl) (fun b q hb z=>(hs.2 b hb).trans z) he new
theorem Aj {P:Program}{w:World}{H':Hp}{h':Heap}{kvs:List (Key × V)}{vs:List (Key × Value)}(z:kvs.length≤sizeLine)(hd:(a == sysModules)=false)(rel:KV kvs vs)(dd:h'.DictOf (bZ P w) a vs):
 bg P w H' h' a (.dK kvs):=⟨z,hd,vs,rel,dd⟩
theorem tS {H':Hp}{Q:Unit->Shared->Prop}(hu:A.units + 1 < cLine)(I:Inv X pins σ H s)(g:pF H a y v H')(ry:aB y u)(rv:aB v r)(h:∀ s',Inv X pins σ H' s'->Q () s'):
 wpAny (model X.prog X.w) A (setItem (.ref a) u r) Q E s:=by
 rcases g with ⟨kvs,k,e,ey,l,eH⟩ | ⟨kvs,k,b,e,ey,eb,l,eH⟩
 ·subst ey eH
  obtain ⟨z,hd,vs,rel,dd⟩:=Bi I.hok e
  have hz:vs.length≤sizeLine:=by rw [← rel.length]; exact z
  have hl:(eL kvs k v).length≤sizeLine:=by have:=i6 kvs k v; omega
  refine wpAny_setItem_pairs (hsz:=hz) (o0 ry) dd fun h' dd' hs=>h _ ?_
  have he:∃ q,h'.get? a=some q:=let ⟨q,_,_,hq,_⟩:=dd'; ⟨q,hq⟩
  exact rM I (by rw [e]; exact True.intro) hs he (Aj hl hd (rel.put k rv) dd')
 ·subst ey eH
  cases (show u=Value.ref b from ry)
  obtain ⟨z,hd,xs,rel,dd⟩:=AS I.hok e
  have hz:xs.length≤sizeLine:=by rw [← Paired.length rel]; exact z
  have hl:(eL kvs k v).length≤sizeLine:=by have:=i6 kvs k v; omega
  refine wpAny_setItem_heap (hsz:=hz) (tupleKind_room_in1 hu) (jJ I.hok eb) dd fun h' dd' hs=>h _ ?_
  obtain ⟨q,es,ep,hq,h2,h3,h4,_,h5⟩:=dd'
  refine rM I (by rw [e]; exact True.intro) hs ⟨q,hq⟩ ⟨hl,hd,_,(rel.put k eb rv).keeps fun c ys ec=>?_,q,es,ep,hq,h2,h3,h4,h5⟩
  rw [al (oO ec e (fun z=>nomatch z))]
  exact ec
end
noncomputable def Bp (i:Expr):Prop:=∀ ov iv,subscripted i false ov iv=operate [ov,iv] (getItem ov iv)
theorem xJ {prog:Program}{w:World}{A:Around}{E:Value->Shared->Prop}{s:Shared}{env:Env}{value slice:Expr}{pos:Pos}{T id:String}{Q:Value->Shared->Prop}
 (hl:typeLookup (.type T) "__getitem__"=pure (some (.builtin id)))(hs:Bp slice)
 (h:wpAny (model prog w) A (eval value env) (fun o s₁=>wpAny (model prog w) A (eval slice env) (fun i s₂=>s₂.TypeIs o T∧wpAny (model prog w) A (getItem o i) Q E s₂) E s₁) E s):
 wpAny (model prog w) A (eval (.Subscript value slice pos) env) Q E s:=by
 refine Subscript_ (wpAny_mono h (fun o s₁ h₁=>wpAny_mono h₁ (fun i s₂ h₂=>?_) fun _ _ x=>x) fun _ _ x=>x)
 obtain ⟨hT,h₂⟩:=h₂
 unfold subscriptTail
 refine wpAny_bind ?_
 rw [getitemInPython_of_ne hT.not_modules]
 refine wpAny_bind (wpAny_specialOf hT hl ?_)
 have fin:wpAny (model prog w) A (subscripted slice false o i) (fun r s₃=>wpAny (model prog w) A (letTemporaryGo value o r >>= fun _=>pure r) Q E s₃) E s₂:=by
  rw [hs o i]
  exact wpAny_operating (wpAny_mono h₂ (fun r s₃ h₃=>wpAny_bind (wpAny_letTemporaryGo (wpAny_pure h₃))) fun _ _ x=>x)
 first
  | exact wpAny_pure (wpAny_bind fin)
  | exact wpAny_bind (wpAny_pure (wpAny_bind fin))
  | exact wpAny_bind fin
theorem pE {X:Cx}{pins:List (Addr × Obj)}{σ:St}{H:Hp}{s:Shared}{a:Addr}{y:V}{o:Option V}(I:Inv X pins σ H s)(g:ir H a y o):s.TypeIs (.ref a) "dict":=by
 rcases g with ⟨kvs,k,e,_,_⟩ | ⟨kvs,k,b,e,_,_,_⟩
 ·obtain ⟨_,_,vs,_,dd⟩:=jV I.hok e
  exact dd.typeIs
 ·obtain ⟨_,_,xs,_,dd⟩:=lP I.hok e
  exact dd.typeIs
noncomputable def Bl (td ty:TE):TE:=fun σ H Q=>td σ H fun x H1=>ty σ H1 fun y H2=>∃ a v,x = .ref a∧ir H2 a y (some v)∧Q v H2
noncomputable def B5 (ty td:TE):TE:=fun σ H Q=>ty σ H fun y H1=>td σ H1 fun x H2=>∃ a o,x = .ref a∧ir H2 a y o∧Q (.bl o.isSome) H2
noncomputable def BA (td ty tv:TE):TS:=fun D σ H=>tv σ H fun v H1=>td σ H1 fun x H2=>ty σ H2 fun y H3=>∃ a H4,x = .ref a∧pF H3 a y v H4∧D.nx σ H4
section
variable {X:Cx}{o i e value:Expr}{pos pos' tpos:Pos}{td ty tv:TE}
theorem m6 (hu:X.A.units + 1 < cLine)(ho:PE X o td)(hi:PE X i ty)(hs:Bp i):PE X (.Subscript o i pos) (Bl td ty):=by
 intro pins s σ H Q I h
 refine xJ PySem.F.slot_dict_getitem.lookup hs (bF (ho pins s σ H _ I h) fun u s1 ⟨x,H1,I1,rx,q1⟩=>bF (hi pins s1 σ H1 _ I1 q1) fun iv s2 ⟨y,H2,I2,ry,a,v,ex,g,q2⟩=>?_)
 subst ex
 obtain rfl:u=Value.ref a:=rx
 exact ⟨pE I2 g,t7 hu I2 g ry fun w' s3 I3 rw'=>⟨v,H2,I3,rw',q2⟩⟩
theorem zS (hu:X.A.units + 1 < cLine)(hi:PE X i ty)(ho:PE X o td):PC X .In i o (B5 ty td):=by
 intro pins s σ H Q I h
 refine bF (hi pins s σ H _ I h) fun iv s1 ⟨y,H1,I1,ry,q1⟩=>bF (ho pins s1 σ H1 _ I1 q1) fun u s2 ⟨x,H2,I2,rx,a,ov,ex,g,q2⟩=>?_
 subst ex
 obtain rfl:u=Value.ref a:=rx
 exact Cj hu I2 g ry fun s3 I3=>⟨.bl ov.isSome,H2,I3,rfl,q2⟩
theorem sj (hu:X.A.units + 1 < cLine)(ho:PE X o td)(hi:PE X i ty)(hv:PE X value tv)(hs:swapsWith value (some (.Subscript o i pos')) pos.line X.env=pure false):
 PS X (.Assign [.Subscript o i pos'] value pos) (BA td ty tv):=by
 intro pins s σ H D I h
 refine wpAny_Assign_Subscript (bF (hv pins s σ H _ I h) fun r s1 ⟨v,H1,I1,rv,q1⟩=>bF (ho pins s1 σ H1 _ I1 q1) fun u s2 ⟨x,H2,I2,rx,q2⟩=>bF (hi pins s2 σ H2 _ I2 q2) fun iv s3 ⟨y,H3,I3,ry,a,H4,ex,g,q3⟩=>?_) hs
 subst ex
 obtain rfl:u=Value.ref a:=rx
 exact tS hu I3 g ry rv fun s4 I4=>⟨σ,H4,I4,q3⟩
end
theorem wP {P:Program}{w:World}{H:Hp}(h:Heap)(hb:sysModules < h.objs.size):bg P w H (h.push { cls:=.type "dict",data:=.dict #[] }) h.objs.size (.dK []):=
 ⟨Nat.zero_le _,beq_eq_false_iff_ne.mpr (Ne.symm (Nat.ne_of_lt hb)),[],.nil,Heap.DictOf.new h⟩
theorem vn {P:Program}{w:World}{H:Hp}(h:Heap)(hb:sysModules < h.objs.size):bg P w H (h.push { cls:=.type "dict",data:=.dict #[] }) h.objs.size (.dT []):=
 ⟨Nat.zero_le _,beq_eq_false_iff_ne.mpr (Ne.symm (Nat.ne_of_lt hb)),[],.nil,_,#[],0,Heap.get?_push_size _ rfl,⟨rfl,rfl,rfl⟩,rfl,rfl,List.nodup_nil⟩
noncomputable def tDNewK:TE:=fun _ H Q=>∀ p,H p=none->Q (.ref p) (upd H p (.dK []))
noncomputable def tDNewT:TE:=fun _ H Q=>∀ p,H p=none->Q (.ref p) (upd H p (.dT []))
section
variable {X:Cx}{pos:Pos}
theorem oW:PE X (.Dict [] [] pos) tDNewK:=fun pins s σ H Q I h =>
 wpAny_Dict_empty ⟨.ref s.heap.objs.size,_,I.laid (a:=s.heap.objs.size) (o:=.dK []) (t':=s.toks) (fun _ _ q=>Heap.get?_push_of_some _ q) (Nat.le_refl _) (wP s.heap I.big),rfl,h _ (I.hok.fresh (Nat.le_refl _))⟩
theorem oH:PE X (.Dict [] [] pos) tDNewT:=fun pins s σ H Q I h =>
 wpAny_Dict_empty ⟨.ref s.heap.objs.size,_,I.laid (a:=s.heap.objs.size) (o:=.dT []) (t':=s.toks) (fun _ _ q=>Heap.get?_push_of_some _ q) (Nat.le_refl _) (vn s.heap I.big),rfl,h _ (I.hok.fresh (Nat.le_refl _))⟩
end
structure M2 (X:Cx)(o:Expr)(m:Str)(apos:Pos)(e f:Expr)(cpos:Pos):Prop where
 base:attributeBase o m X.env (eval o X.env)=eval o X.env
 few:((backTo cpos (starEach [e,f] X.env)).all (fun x=>!x.1)&&(backToKw cpos (keywordEach [] X.env)).all (fun x=>x.1.isSome)
  && decide (([e,f]:List Expr).length + ([]:List Keyword).length + (if ([]:List Keyword).isEmpty then 0 else 1) < 30))=true
 line:(apos.endLine == cpos.line)=true
 trees:backTo cpos (starEach [e,f] X.env)=[(false,eval e X.env),(false,eval f X.env)]
noncomputable def CO (H:Hp)(a:Addr):Prop:=(∃ kvs,Rd H a (.dK kvs))∨∃ kvs,Rd H a (.dT kvs)
theorem zx {X:Cx}{pins:List (Addr × Obj)}{σ:St}{H:Hp}{s:Shared}{a:Addr}(I:Inv X pins σ H s)(d:CO H a):
 s.TypeIs (.ref a) "dict"∧(∀ b,Value.ref a = .ref b->∃ ob,s.heap.get? b=some ob∧ob.dict=none)∧(a == sysModules)=false:=by
 rcases d with ⟨kvs,e⟩ | ⟨kvs,e⟩
 ·obtain ⟨_,hd,vs,_,dd⟩:=jV I.hok e
  refine ⟨dd.typeIs,fun b q=>?_,hd⟩
  cases q
  obtain ⟨ob,_,_,h1,h2,_⟩:=dd
  exact ⟨ob,h1,h2.2.1⟩
 ·obtain ⟨_,hd,xs,_,dd⟩:=lP I.hok e
  refine ⟨dd.typeIs,fun b q=>?_,hd⟩
  cases q
  obtain ⟨ob,_,_,h1,h2,_⟩:=dd
  exact ⟨ob,h1,h2.2.1⟩
section
variable {X:Cx}{pins:List (Addr × Obj)}{σ:St}{H:Hp}{s:Shared}{a:Addr}{y d:V}{u r:Value}{o:Option V}{A:Around}{E:Value->Shared->Prop}
theorem zm {Q:Value->Shared->Prop}(hu:A.units + 1 < cLine)(I:Inv X pins σ H s)(g:ir H a y o)(ry:aB y u)(rd:aB d r)(h:∀ w' s',Inv X pins σ H s'->aB (o.getD d) w'->Q w' s'):
 wpAny (model X.prog X.w) A (call (.builtin "dict.get") [.ref a,u,r]) Q E s:=by
 rcases g with ⟨kvs,k,e,ey,l⟩ | ⟨kvs,k,b,e,ey,eb,l⟩
 ·subst ey
  obtain ⟨z,hd,vs,rel,dd⟩:=jV I.hok e
  refine call_meetsIn PySem.F.slot_dict_get dd.typeIs PySem.F.entry_dict_get (PySem.F.args_dict_get_3 _ _ _) (meets_dict_get_default (bZ X.prog X.w) a (o0 ry) hd r) ⟨_,dd.mapOf,h _ _ (I.tok _) ?_⟩
  rw [l]
  exact (rel.val k).getD rd
 ·subst ey
  cases (show u=Value.ref b from ry)
  obtain ⟨z,hd,xs,rel,dd⟩:=lP I.hok e
  refine call_meetsIn PySem.F.slot_dict_get dd.typeIs PySem.F.entry_dict_get (PySem.F.args_dict_get_3 _ _ _) (meetsH_dict_get_default (tupleKind (bZ X.prog X.w)) a b hd r) ⟨tupleKind_room_in1 hu,k,xs,jJ I.hok eb,dd,h _ _ (I.tok _) ?_⟩
  rw [l]
  exact (rel.val k).getD rd
end
noncomputable def zA (td ty tx:TE):TE:=fun σ H Q=>td σ H fun x H1=>∃ a,x = .ref a∧CO H1 a∧ty σ H1 fun y H2=>tx σ H2 fun z H3=>∃ o,ir H3 a y o∧Q (o.getD z) H3
section
variable {X:Cx}{o e f:Expr}{apos cpos:Pos}{td ty tx:TE}
theorem vB (hu:X.A.units + 1 < cLine)(ho:PE X o td)(he:PE X e ty)(hf:PE X f tx)(m:M2 X o "get" apos e f cpos):PE X (.Call (.Attribute o "get" apos) [e,f] [] cpos) (zA td ty tx):=by
 intro pins s σ H Q I h
 refine wpAny_Call_method m.base m.few m.line PySem.F.plainAttrs_dict PySem.F.slot_dict_get PySem.F.type_dict_get (bF (ho pins s σ H _ I h) fun u s1 ⟨x,H1,I1,rx,a,ex,d,q1⟩=>?_)
 subst ex
 obtain rfl:u=Value.ref a:=rx
 obtain ⟨t1,t2,_⟩:=zx I1 d
 refine ⟨t1,t2,?_⟩
 rw [m.trees]
 refine Calls.callWith_builtin rfl (Calls.evalArgs_plain (Calls.spliced_cons (bF (he pins s1 σ H1 _ I1 q1) fun iv s2 ⟨y,H2,I2,ry,q2⟩ =>
  Calls.spliced_cons (bF (hf pins s2 σ H2 _ I2 q2) fun fv s3 ⟨z,H3,I3,rz,ov,g,q3⟩=>Calls.spliced_nil ?_))))
 exact zm hu I3 g ry rz fun w' s4 I4 rw'=>⟨_,H3,I4,rw',q3⟩
end
end L2
namespace HT
open PySem PyProof.Rows
noncomputable def cQ:List Int->List Int->Bool
 | [],[]=>false
 | [],_ :: _=>true
 | _ :: _,[]=>false
 | x :: xs,y :: ys=>if x=y then cQ xs ys else decide (x < y)
theorem dJ (x y:Int)(xs ys:List Int):cQ (x :: xs) (y :: ys)=if x=y then cQ xs ys else decide (x < y):=rfl
theorem ly:cQ [] []=false:=rfl
theorem kM (y:Int)(ys:List Int):cQ [] (y :: ys)=true:=rfl
theorem j2 (x:Int)(xs:List Int):cQ (x :: xs) []=false:=rfl
theorem wn (A:Around)(s:Shared)(a:Int)(t:Tok)(c:Int)(u:Tok):∃ e,SeqAt.EqAt A s (.int a t) (.int c u) e∧(e=true ↔ a=c):=
 ⟨(a == c),SeqAt.EqAt.int_int a t c u,by simp⟩
theorem xh (A:Around)(s:Shared)(a:Int)(t:Tok)(c:Int)(u:Tok)(prog:Program)(w:World)(E:Value->Shared->Prop)(Q:Value->Shared->Prop)(h:Q (.bool (decide (a < c))) s):
 wpAny (model prog w) A (richCompare .Lt (.int a t) (.int c u)) Q E s :=
 (PyProof.Rows.lt_int h:wpAny (model prog w) A (compareOp .Lt (.int a t) (.int c u)) Q E s)
section
open PySem.SeqAt
open PySem.AutoSeq1 (wpAny_loadPart')
open PySem.MeetsSeq PySem.MeetsSeq2 PySem.MeetsSeq3
theorem lA (l b:Addr)(items items2:Array Value)(n n2:Nat)(dd dd2:Option Addr)(sl sl2:Array (Option Value))(ns ms:List Int)(hi:IntsAre items.toList ns)(hj:IntsAre items2.toList ms):
 Meets (Builtin.«tuple.__lt__» ⟨[.ref l,.ref b],[]⟩)
  (fun _ R s=>s.heap.get? l=some { cls:=.type "tuple",dict:=dd,data:=.seq items n,slots:=sl }∧s.heap.get? b=some { cls:=.type "tuple",dict:=dd2,data:=.seq items2 n2,slots:=sl2 } ∧
   R (.ok (.ret (.bool (cQ ns ms)))) s):=
 .of_wp fun prog w A R s h=>by
  obtain ⟨hp,g,d,tk,os⟩:=s; obtain ⟨hl,hb,h⟩:=h
  have f2:=AutoSeq1.sub_tuple_tuple
  have z1:items.size=ns.length:=by rw [← hi.length]; simp
  have z2:items2.size=ms.length:=by rw [← hj.length]; simp
  wp_walk using wpAny_loadPart' hl,wpAny_loadPart' hb,wpAny_forIn_list _ (fun rest b s'=>b.1=none∧s'=⟨hp,g,d,tk,os⟩∧∃ (vs ws:List Value)(ns' ms':List Int),rest=vs.zip ws ∧
   IntsAre vs ns'∧IntsAre ws ms'∧ns'.length + items2.size=ms'.length + items.size∧R (.ok (.ret (.bool (cQ ns' ms')))) ⟨hp,g,d,tk,os⟩) _
  case turn =>
   rintro ⟨y,x⟩ rest b s' ⟨hb',rfl,vs,ws,ns',ms',hz,hvi,hwi,hlen,hR⟩
   cases hvi with
   | nil=>rw [List.zip_nil_left] at hz; cases hz
   | cons a t hvi' =>
     cases hwi with
     | nil=>rw [List.zip_nil_right] at hz; cases hz
     | cons c u hwi' =>
       rw [List.zip_cons_cons] at hz
       injection hz with hyx hrest
       injection hyx with hy hx
       subst hy hx
       rw [dJ] at hR
       simp only [List.length_cons] at hlen
       obtain ⟨e,he,hiff⟩:=wn A.in1 ⟨hp,g,d,tk,os⟩ a t c u
       refine wpAny_bind (he prog w _ _ ?_)
       cases e with
       | true =>
         rw [if_pos (hiff.mp rfl)] at hR
         wp_walk
         exact ⟨rfl,rfl,_,_,_,_,hrest,hvi',hwi',by omega,hR⟩
       | false =>
         rw [if_neg (fun q=>absurd (hiff.mpr q) Bool.false_ne_true)] at hR
         have hri:=xh A.in1 ⟨hp,g,d,tk,os⟩ a t c u prog w
         wp_walk using hri
         exact ⟨_,rfl,by simpa using hR⟩
  case fin =>
   rintro ⟨b1,b2⟩ s' ⟨hb',rfl,vs,ws,ns',ms',hz,hvi,hwi,hlen,hR⟩
   simp only at hb'
   subst hb'
   have hv:cQ ns' ms'=decide (items.size < items2.size):=by
    cases hvi with
    | nil =>
      cases hwi with
      | nil =>
        simp only [List.length_nil] at hlen
        rw [ly]
        exact (decide_eq_false (by omega)).symm
      | cons c u hw =>
        simp only [List.length_nil,List.length_cons] at hlen
        rw [kM]
        exact (decide_eq_true (by omega)).symm
    | cons a t hv =>
      cases hwi with
      | nil =>
        simp only [List.length_nil,List.length_cons] at hlen
        rw [j2]
        exact (decide_eq_false (by omega)).symm
      | cons c u hw =>
        rw [List.zip_cons_cons] at hz
        cases hz
   rw [hv] at hR
   wp_walk
   exact ⟨_,rfl,by simpa [Builtin.Tuple.tupleCompareSizes] using hR⟩
  case h =>
   exact ⟨rfl,rfl,items.toList,items2.toList,ns,ms,rfl,hi,hj,by omega,h⟩
end
section
variable {prog:Program}{w:World}{A:Around}{E:Value->Shared->Prop}{s:Shared}
theorem qh {l b:Addr}{items items2:Array Value}{ns ms:List Int}{Q:Value->Shared->Prop}(hl:IsTup s.heap l items)(hb:IsTup s.heap b items2)(hi:IntsAre items.toList ns)(hj:IntsAre items2.toList ms)
 (hu:A.units < cLine)(h:Q (.bool (cQ ns ms)) s):wpAny (model prog w) A (compareOp .Lt (.ref l) (.ref b)) Q E s:=by
 obtain ⟨⟨cls,dd,data,sl⟩,ho,hc,n,hd⟩:=id hl
 obtain ⟨⟨cls2,dd2,data2,sl2⟩,ho2,hc2,n2,hd2⟩:=id hb
 simp only at hc hd hc2 hd2
 subst hc hd hc2 hd2
 exact richCompare_meets_room (op:=.Lt) ⟨_,ho,rfl⟩ ⟨_,ho2,rfl⟩ PySem.F.slot_tuple_lt PySem.F.entry_tuple_lt (PySem.F.args_tuple_lt_2 _ _) (lA l b items items2 n n2 dd dd2 sl sl2 ns ms hi hj)
  ⟨ho,ho2,show Value.bool (cQ ns ms)≠Value.notImplemented∧Q (.bool (cQ ns ms)) s from ⟨(fun x=>nomatch x),h⟩⟩ hu
theorem yt {t b:Addr}{vs ws:List Value}{Q:Value->Shared->Prop}(ht:IsTup s.heap t vs.toArray)(hb:IsTup s.heap b ws.toArray)(hv:vs≠[])
 (h1:ws=[]->Q (.ref t) s)(h2:ws≠[]->Q (.ref s.heap.objs.size) { s with heap:=s.heap.push { cls:=.type "tuple",data:=.seq (vs++ws).toArray } })
 (hsz:vs.length + ws.length≤sizeLine):wpAny (model prog w) A (binaryOp .Add (.ref t) (.ref b)) Q E s:=by
 obtain ⟨⟨cls,dd,data,sl⟩,ho,hc,n,hd⟩:=id ht
 obtain ⟨⟨cls2,dd2,data2,sl2⟩,ho2,hc2,n2,hd2⟩:=id hb
 simp only at hc hd hc2 hd2
 subst hc hd hc2 hd2
 have e:vs.toArray++ws.toArray=(vs++ws).toArray:=by simp
 by_cases hw:ws=[]
 ·exact concat_meets ⟨_,ho,rfl⟩ ⟨_,ho2,rfl⟩ noFill_tuple_add seq_tuple_add PySem.F.slot_tuple_add PySem.F.entry_tuple_add (PySem.F.args_tuple_add_2 _ _)
   (tuple_addW1 t b vs.toArray ws.toArray n n2 dd dd2 sl sl2 (by simpa using hv) (by simp [hw])) ⟨ho,ho2,h1 hw⟩
 ·refine concat_meets ⟨_,ho,rfl⟩ ⟨_,ho2,rfl⟩ noFill_tuple_add seq_tuple_add PySem.F.slot_tuple_add PySem.F.entry_tuple_add (PySem.F.args_tuple_add_2 _ _)
   (tuple_addW2 t b vs.toArray ws.toArray n n2 dd dd2 sl sl2 (by simpa using hv) (by simpa using hw) (by rw [List.size_toArray,List.size_toArray]; exact hsz)) ⟨ho,ho2,?_⟩
  rw [e]
  exact h2 hw
noncomputable def c8 (n d:Nat):Option Int->Nat
 | none=>d
 | some v=>if v < 0 then (v + (n:Int)).toNat else min v.toNat n
theorem zE (n d:Nat)(hd:d≤n)(o:Option Int):c8 n d o≤n:=by
 cases o with
 | none=>exact hd
 | some v =>
   show (if v < 0 then (v + (n:Int)).toNat else min v.toNat n)≤n
   by_cases hv:v < 0
   ·rw [if_pos hv]; omega
   ·rw [if_neg hv]; exact Nat.min_le_right _ _
theorem sW (v:Int)(n d:Nat):(if v < 0 then max (v + (n:Int)) 0 else min v (n:Int))=((c8 n d (some v):Nat):Int):=by
 show (if v < 0 then max (v + (n:Int)) 0 else min v (n:Int))=(((if v < 0 then (v + (n:Int)).toNat else min v.toNat n):Nat):Int)
 by_cases hv:v < 0
 ·simp only [if_pos hv]; omega
 ·simp only [if_neg hv]; omega
theorem qo (lo hi:Option Int)(n:Nat):Builtin.Slice.sliceAdjust lo hi 1 (n:Int)=(((c8 n 0 lo:Nat):Int),((c8 n n hi:Nat):Int)):=by
 have h1:¬ ((1:Int) < 0):=by omega
 unfold Builtin.Slice.sliceAdjust
 simp only [h1,if_false]
 refine Prod.ext ?_ ?_
 ·cases lo with
  | none=>rfl
  | some v=>exact sW v n 0
 ·cases hi with
  | none=>rfl
  | some v=>exact sW v n n
theorem qu (i j:Nat):Builtin.Slice.slicePlaces (i:Int) (j:Int) 1=j - i:=by
 unfold Builtin.Slice.slicePlaces
 have h1:(1:Int) > 0:=by omega
 simp only [h1,if_true,Int.ediv_one]
 split <;> omega
theorem jN {v:Value}{o:Option Int}{Q:Option Int->Shared->Prop}(p:IsPart v o)(h:Q o s):wpAny (model prog w) A (Builtin.Slice.slicePartIndex v) Q E s:=by
 cases p with
 | none=>exact slicePart_none h
 | int i t=>exact slicePart_int h
theorem eG {sl:Addr}{vl vu:Value}{lo hi:Option Int}{n:Nat}{Q:Int × Int × Nat->Shared->Prop}(hs:s.heap.IsSliceOf sl vl vu .none)(pl:IsPart vl lo)(pu:IsPart vu hi)
 (h:Q (((c8 n 0 lo:Nat):Int),1,c8 n n hi - c8 n 0 lo) s):wpAny (model prog w) A (Builtin.Slice.sliceApplied (.ref sl) (pure (n:Int))) Q E s:=by
 obtain ⟨os,hos,hcs,hds⟩:=id hs
 unfold Builtin.Slice.sliceApplied Builtin.Slice.sliceFields
 refine wpAny_bind (wpAny_bind (wpAny_field hos hds (x:=vl) rfl (wpAny_bind (wpAny_field hos hds (x:=vu) rfl (wpAny_bind (wpAny_field hos hds (x:=.none) rfl (wpAny_pure ?_)))))))
 refine wpAny_bind (slicePart_none ?_)
 show wpAny _ _ (if ((1:Int) == 0)=true then _ else _) _ _ s
 rw [if_neg (by decide)]
 refine wpAny_bind (jN pl (wpAny_bind (jN pu (wpAny_bind (wpAny_pure ?_)))))
 show wpAny _ _ (match Builtin.Slice.sliceAdjust lo hi 1 (n:Int) with | (lo,hi)=>pure (lo,(1:Int),Builtin.Slice.slicePlaces lo hi 1)) _ _ s
 rw [qo lo hi n]
 show wpAny _ _ (pure (((c8 n 0 lo:Nat):Int),(1:Int),Builtin.Slice.slicePlaces ((c8 n 0 lo:Nat):Int) ((c8 n n hi:Nat):Int) 1)) _ _ s
 rw [qu]
 exact wpAny_pure h
theorem wG (xs:Array Value)(i k:Nat):((List.range k).filterMap fun (m:Nat)=>xs[((i:Int) + (m:Int) * 1).toNat]?).toArray=((xs.toList.drop i).take k).toArray:=by
 have e:(fun (m:Nat)=>xs[((i:Int) + (m:Int) * 1).toNat]?)=fun m=>xs[i + m]?:=by
  funext m
  have:((i:Int) + (m:Int) * 1).toNat=i + m:=by omega
  rw [this]
 rw [e]
 have:=pick_run xs i k
 rw [List.filterMap_map] at this
 have e2:((fun x=>xs[x]?) ∘ fun x=>i + x)=fun m=>xs[i + m]?:=rfl
 rw [e2] at this
 rw [this]
theorem gQ {t sl:Addr}{items:Array Value}{vl vu:Value}{lo hi:Option Int}{Q:Value->Shared->Prop}(ht:IsTup s.heap t items)(hs:s.heap.IsSliceOf sl vl vu .none)(pl:IsPart vl lo)(pu:IsPart vu hi)
 (hw:¬ (c8 items.size 0 lo=0∧c8 items.size items.size hi=items.size))
 (h:Q (.ref s.heap.objs.size) { s with heap:=s.heap.push { cls:=.type "tuple",data:=.seq ((items.toList.drop (c8 items.size 0 lo)).take (c8 items.size items.size hi - c8 items.size 0 lo)).toArray } })
 (hsz:items.size≤sizeLine):wpAny (model prog w) A (getItem (.ref t) (.ref sl)) Q E s:=by
 have htake:sizeOk (.seq ((items.toList.drop (c8 items.size 0 lo)).take (c8 items.size items.size hi - c8 items.size 0 lo)).toArray):=by
  show ((items.toList.drop (c8 items.size 0 lo)).take (c8 items.size items.size hi - c8 items.size 0 lo)).toArray.size≤sizeLine
  rw [List.size_toArray,List.length_take,List.length_drop,Array.length_toList]
  omega
 have hj:c8 items.size items.size hi≤items.size:=zE _ _ (Nat.le_refl _) hi
 obtain ⟨os,hos,hcs,hds⟩:=id hs
 have hTs:s.TypeIs (.ref sl) "slice":=⟨os,hos,hcs⟩
 unfold getItem
 try with_reducible refine wpAny_holding ?_
 first | refine wpAny_bind (wpAny_pure ?_) | skip
 refine wpAny_bind (wpAny_sequenceKey ht.typeIs (by decide) ?_)
 refine wpAny_bind (wpAny_callSpecial?_slot (name:=Str.ofString "__getitem__") ht.typeIs PyProof.Rows.slot_tuple_getitem
  (wpAny_call_entry PyProof.Rows.slot_tuple_getitem ht.typeIs entry_tuple_getitem ?_ (args_tuple_getitem _ _)))
 show wpAny _ _ (Builtin.Tuple.tupleItemsOf (.ref t) >>= _) _ _ s
 refine wpAny_bind (tupleItemsOf_ ht ?_)
 refine wpAny_bind (wpAny_typeOf hTs ?_)
 rw [if_pos (by decide)]
 refine wpAny_bind (eG hs pl pu ?_)
 have hno:¬ ((((c8 items.size 0 lo:Nat):Int) == 0&&(1:Int) == 1&&(c8 items.size items.size hi - c8 items.size 0 lo) == items.size)=true):=by
  intro q
  rw [Bool.and_eq_true,Bool.and_eq_true] at q
  have q1:((c8 items.size 0 lo:Nat):Int)=0:=eq_of_beq q.1.1
  have q2:c8 items.size items.size hi - c8 items.size 0 lo=items.size:=eq_of_beq q.2
  exact hw ⟨by omega,by omega⟩
 show wpAny _ _ (if (((c8 items.size 0 lo:Nat):Int) == 0&&(1:Int) == 1&&(c8 items.size items.size hi - c8 items.size 0 lo) == items.size)=true then _ else _) _ _ s
 rw [if_neg hno,wG]
 first
  | exact wpAny_bind (m:=Builtin.Tuple.tupleExact _) (wpAny_newObj_type (wpAny_pure ⟨_,rfl,wpAny_pure h⟩) htake)
  | exact wpAny_bind (m:=Builtin.Tuple.tupleExact _) (wpAny_newObj_type (wpAny_bind (wpAny_pure (wpAny_pure ⟨_,rfl,wpAny_pure h⟩))) htake)
  | exact wpAny_bind (wpAny_bind (m:=Builtin.Tuple.tupleExact _) (wpAny_newObj_type (wpAny_pure (wpAny_pure ⟨_,rfl,wpAny_pure h⟩)) htake))
  | exact wpAny_bind (wpAny_bind (m:=Builtin.Tuple.tupleExact _) (wpAny_newObj_type (wpAny_pure ⟨_,rfl,wpAny_pure h⟩) htake))
end
end HT
namespace L2
open PySem PySem.Spec PyProof.Rows
noncomputable abbrev TO:=St->Hp->(Option Int->Hp->Prop)->Prop
noncomputable def PO (X:Cx)(e:Option Expr)(t:TO):Prop :=
 ∀ (pins:List (Addr × Obj))(s:Shared)(σ:St)(H:Hp)(Q:Option Int->Hp->Prop),Inv X pins σ H s->t σ H Q →
   wpAny (model X.prog X.w) X.A (evalPart e X.env) (fun u s'=>∃ o H',Inv X pins σ H' s'∧IsPart u o∧Q o H') X.xe s
noncomputable def tNoPart:TO:=fun _ H Q=>Q none H
noncomputable def A7 (t:TE):TO:=fun σ H Q=>t σ H fun x H1=>∃ i,x = .int i∧Q (some i) H1
theorem kI {ns:List Int}:∀ {us:List Value},aJ (ns.map V.int) us->IntsAre us ns:=by
 induction ns with
 | nil=>intro us r; rw [List.map_nil] at r; cases r; exact .nil
 | cons n ns ih =>
   intro us r
   rw [List.map_cons] at r
   cases r with
   | cons r1 r2 =>
     obtain ⟨t,e⟩:=r1
     subst e
     exact .cons n t (ih r2)
section
variable {X:Cx}{e:Expr}{te:TE}{lo hi:Option Expr}{tl th:TO}{pos p2:Pos}
theorem cT:PO X none tNoPart:=by
 intro pins s σ H Q I h
 rw [evalPart_none]
 exact wpAny_pure ⟨none,H,I,.none,h⟩
theorem cW (h:PE X e te):PO X (some e) (A7 te):=by
 intro pins s σ H Q I hw
 rw [evalPart_some]
 refine bF (h pins s σ H _ I hw) fun u s1 ⟨x,H1,I1,r1,q1⟩=>?_
 obtain ⟨i,rfl,q⟩:=q1
 obtain ⟨t,rfl⟩:=r1
 exact ⟨some i,H1,I1,.int i t,q⟩
noncomputable def AI (X:Cx)(r:V->Option Int->Option Int->Hp->VK->Prop):Prop :=
 ∀ (pins:List (Addr × Obj))(s:Shared)(σ:St)(H:Hp)(x:V)(v vl vu:Value)(lo hi:Option Int)(sl:Addr)(Q:VK),Inv X pins σ H s->aB x v->s.heap.IsSliceOf sl vl vu .none->IsPart vl lo->IsPart vu hi->r x lo hi H Q →
   ∃ T id,typeLookup (.type T) "__getitem__"=pure (some (.builtin id))∧s.TypeIs v T∧wpAny (model X.prog X.w) X.A (getItem v (.ref sl)) (EP X pins σ Q) X.xe s
noncomputable def CT (r:V->Option Int->Option Int->Hp->VK->Prop)(te:TE)(tl th:TO):TE:=fun σ H Q=>te σ H fun x H1=>tl σ H1 fun l H2=>th σ H2 fun u H3=>r x l u H3 Q
theorem cy {r:V->Option Int->Option Int->Hp->VK->Prop}(hr:AI X r)(he:PE X e te)(hl:PO X lo tl)(hu:PO X hi th):PE X (.Subscript e (.Slice lo hi none p2) pos) (CT r te tl th):=by
 intro pins s σ H Q I h
 refine Subscript_ (bF (he pins s σ H _ I h) fun v s1 ⟨x,H1,I1,r1,q1⟩=>?_)
 refine wpAny_Slice (bF (hl pins s1 σ H1 _ I1 q1) fun vl s2 ⟨l,H2,I2,pl,q2⟩=>bF (hu pins s2 σ H2 _ I2 q2) fun vu s3 ⟨u,H3,I3,pu,q3⟩=>?_)
 rw [evalPart_none]
 refine wpAny_pure ?_
 have I4:Inv X pins σ H3 { s3 with heap:=s3.heap.push { cls:=.type "slice",data:=.fields #[vl,vu,.none] } }:=I3.kept (t':=s3.toks) fun b ob q=>Heap.get?_push_of_some _ q
 obtain ⟨T,id,hT,ht,hg⟩:=hr pins { s3 with heap:=s3.heap.push { cls:=.type "slice",data:=.fields #[vl,vu,.none] } } σ H3 x v vl vu l u s3.heap.objs.size Q I4 r1 (Heap.IsSliceOf.new ..) pl pu q3
 show wpAny (model X.prog X.w) X.A (subscriptTail e (.Slice lo hi none p2) v (.ref s3.heap.objs.size)) (EP X pins σ Q) X.xe { s3 with heap:=s3.heap.push { cls:=.type "slice",data:=.fields #[vl,vu,.none] } }
 exact tail_any (ops:=[.ref s3.heap.objs.size,v]) ht hT hg (by with_unfolding_all rfl)
noncomputable def eK (xs:List V)(lo hi:Option Int):List V:=(xs.drop (HT.c8 xs.length 0 lo)).take (HT.c8 xs.length xs.length hi - HT.c8 xs.length 0 lo)
theorem iV (xs:List V)(lo hi:Option Int):(eK xs lo hi).length≤xs.length:=by
 unfold eK
 rw [List.length_take,List.length_drop]
 omega
noncomputable def Ch (K:PySem.W.Frag):V->Option Int->Option Int->Hp->VK->Prop:=fun x lo hi H Q=>∃ a xs,x = .ref a∧bc K H a xs ∧
 ¬ (HT.c8 xs.length 0 lo=0∧HT.c8 xs.length xs.length hi=xs.length)∧∀ p,H p=none->Q (.ref p) (upd H p (.tup (eK xs lo hi)))
theorem Aa:AI X (Ch X.K):=by
 intro pins s σ H x v vl vu lo hi sl Q I rx hs pl pu h
 obtain ⟨a,xs,rfl,hx,hw,q⟩:=h
 cases rx
 obtain ⟨its,r,ht,hz⟩:=I.tuple hx
 have hlen:its.toArray.size=xs.length:=by rw [List.size_toArray]; exact r.length.symm
 refine ⟨"tuple",_,PyProof.Rows.slot_tuple_getitem.lookup,ht.typeIs,?_⟩
 refine HT.gQ ht hs pl pu (by rw [hlen]; exact hw) ?_ (by rw [hlen]; exact hz)
 rw [hlen]
 refine ⟨.ref s.heap.objs.size,_,I.laid (t':=s.toks) (o:=.tup (eK xs lo hi)) (fun b ob q=>Heap.get?_push_of_some _ q) (Nat.le_refl _) ?_,rfl,q _ (I.hok.fresh (Nat.le_refl _))⟩
 exact ⟨Nat.le_trans (iV xs lo hi) hz,_,(r.drop (HT.c8 xs.length 0 lo)).take (HT.c8 xs.length xs.length hi - HT.c8 xs.length 0 lo),IsTup.new _ _⟩
noncomputable def BB (K:PySem.W.Frag):R2:=fun x y H Q=>∃ a b xs ys,x = .ref a∧y = .ref b∧bc K H a xs∧bc K H b ys∧xs≠[]∧xs.length + ys.length≤sizeLine ∧
 (ys=[]->Q (.ref a) H)∧(ys≠[]->∀ p,H p=none->Q (.ref p) (upd H p (.tup (xs++ys))))
theorem aJ.nil_iff {xs:List V}{us:List Value}(r:aJ xs us):us=[] ↔ xs=[]:=by
 cases r with
 | nil=>simp
 | cons _ _=>simp
theorem yF:eZ X (binaryOp .Add) (BB X.K):=by
 intro pins s σ H x y v u Q I rx ry h
 obtain ⟨a,b,xs,ys,rfl,rfl,ha,hb,hx,hz,q1,q2⟩:=h
 cases rx
 cases ry
 obtain ⟨its,r1,p1,_⟩:=I.tuple ha
 obtain ⟨its2,r2,p2,_⟩:=I.tuple hb
 refine HT.yt p1 p2 (fun z=>hx (r1.nil_iff.mp z)) (fun z=>⟨.ref a,H,I,rfl,q1 (r2.nil_iff.mp z)⟩) (fun z=>?_) (by rw [← r1.length,← r2.length]; exact hz)
 refine ⟨.ref s.heap.objs.size,_,I.laid (t':=s.toks) (o:=.tup (xs++ys)) (fun b ob q=>Heap.get?_push_of_some _ q) (Nat.le_refl _) ?_,rfl,q2 (fun w=>z (r2.nil_iff.mpr w)) _ (I.hok.fresh (Nat.le_refl _))⟩
 exact ⟨by rw [List.length_append]; exact hz,_,r1.append r2,IsTup.new _ _⟩
end
noncomputable def wQ (n:Nat)(i:Int):Option Nat:=if 0≤i then (if i < n then some i.toNat else none) else if -(n:Int)≤i then some (i + n).toNat else none
noncomputable def mj {α:Type}(xs:List α)(i:Int):Option α:=(wQ xs.length i).bind fun j=>xs[j]?
theorem rL {n:Nat}{i:Int}{j:Nat}(h:wQ n i=some j):seqIndex? i n=some j∧j < n∧-(n:Int)≤i∧i < n:=by
 unfold wQ at h
 by_cases h0:0≤i
 ·rw [if_pos h0] at h
  by_cases h1:i < n
  ·rw [if_pos h1] at h
   have e:i.toNat=j:=Option.some.inj h
   exact ⟨by rw [seqIndex_of h0 h1,e],by omega,by omega,h1⟩
  ·rw [if_neg h1] at h; cases h
 ·rw [if_neg h0] at h
  by_cases h1:-(n:Int)≤i
  ·rw [if_pos h1] at h
   have e:(i + n).toNat=j:=Option.some.inj h
   exact ⟨by rw [seqIndex_neg (by omega) h1,e],by omega,h1,by omega⟩
  ·rw [if_neg h1] at h; cases h
theorem rR {α:Type}{xs:List α}{i:Int}{v:α}(h:mj xs i=some v):∃ j,seqIndex? i xs.length=some j∧xs[j]?=some v∧j < xs.length∧-(xs.length:Int)≤i∧i < xs.length:=by
 unfold mj at h
 cases e:wQ xs.length i with
 | none=>rw [e] at h; cases h
 | some j =>
   rw [e] at h
   obtain ⟨h1,h2,h3,h4⟩:=rL e
   exact ⟨j,h1,h,h2,h3,h4⟩
theorem gN {α:Type}{xs:List α}{j:Nat}{v:α}(h:xs[j]?=some v):mj xs (j:Int)=some v:=by
 have hj:j < xs.length:=(List.getElem?_eq_some_iff.mp h).1
 have e:wQ xs.length (j:Int)=some j:=by
  unfold wQ
  rw [if_pos (by omega),if_pos (by omega)]; simp
 unfold mj; rw [e]; exact h
noncomputable def yl (b:Expr):Prop:=∀ o i,subscripted b false o i=operate [o,i] (getItem o i)
noncomputable def yh (X:Cx)(r:R2):Prop :=
 ∀ (value slice:Expr)(pins:List (Addr × Obj))(s:Shared)(σ:St)(H:Hp)(x y:V)(v u:Value)(Q:VK),Inv X pins σ H s->aB x v->aB y u->r x y H Q →
   subscripted slice false v u=operate [v,u] (getItem v u)->wpAny (model X.prog X.w) X.A (subscriptTail value slice v u) (EP X pins σ Q) X.xe s
noncomputable def BG (X:Cx)(id:String)(r:V->List V->Hp->VK->Prop):Prop :=
 ∀ (pins:List (Addr × Obj))(s:Shared)(σ:St)(H:Hp)(x:V)(xs:List V)(v:Value)(us:List Value)(Q:VK),Inv X pins σ H s->aB x v->aJ xs us->r x xs H Q →
   wpAny (model X.prog X.w) X.A (call (.builtin id) (v :: us)) (EP X pins σ Q) X.xe s
section
variable {X:Cx}{a b:Expr}{ta tb:TE}{pos:Pos}
theorem aW {r:R2}(hr:yh X r)(ha:PE X a ta)(hb:PE X b tb)(hs:yl b):PE X (.Subscript a b pos) (pJ r ta tb):=by
 intro pins s σ H Q I h
 exact Subscript_ (zk ha hb I h fun v u s2 x y H2 I2 rx ry q=>hr a b pins s2 σ H2 x y v u Q I2 rx ry q (hs _ _))
noncomputable def yc (K:PySem.W.Frag):R2:=fun x y H Q=>∃ p xs i v,x = .ref p∧y = .int i∧aO K H p xs∧mj xs i=some v∧Q v H
noncomputable def uS (K:PySem.W.Frag):R2:=fun x y H Q=>∃ p xs i v,x = .ref p∧y = .int i∧bc K H p xs∧mj xs i=some v∧Q v H
theorem aZ:yh X (yc X.K):=by
 intro value slice pins s σ H x y v u Q I rx ry h hs
 obtain ⟨p,xs,i,z,rfl,rfl,hq,he,q⟩:=h
 cases rx
 obtain ⟨t,rfl⟩:=ry
 obtain ⟨its,r,pl,hz⟩:=I.list hq
 obtain ⟨j,h1,h2,h3,h4,h5⟩:=rR he
 obtain ⟨w,ew,rw'⟩:=r.get h2
 have hl:=r.length
 have hn:=kE
 have fin:EP X pins σ Q w s:=⟨z,H,I,rw',q⟩
 by_cases h0:0≤i
 ·have hj:i.toNat=j:=by
   rw [seqIndex_of h0 h5] at h1
   exact Option.some.inj h1
  exact item_listR pl.isList h0 (by omega) (by rw [hj]; simpa using ew) fin hs
 ·have hj:(i + (its.toArray.size:Int)).toNat=j:=by
   rw [seqIndex_neg (by omega) h4] at h1
   rw [List.size_toArray,← hl]
   exact Option.some.inj h1
  exact subscriptTail_builtinR (x:=w) pl.isList.typeIs slot_list_getitem.lookup
   (wpAny_getItem_list_neg (Q:=fun r s'=>r=w∧EP X pins σ Q r s') pl.isList (by omega) (by rw [List.size_toArray] <;> omega) (by omega) (by rw [hj]; simpa using ew) ⟨rfl,fin⟩) hs
theorem cb:yh X (uS X.K):=by
 intro value slice pins s σ H x y v u Q I rx ry h hs
 obtain ⟨p,xs,i,z,rfl,rfl,hq,he,q⟩:=h
 cases rx
 obtain ⟨t,rfl⟩:=ry
 obtain ⟨its,r,pl,hz⟩:=I.tuple hq
 obtain ⟨j,h1,h2,h3,h4,h5⟩:=rR he
 obtain ⟨w,ew,rw'⟩:=r.get h2
 have hl:=r.length
 have hn:=kE
 have fin:EP X pins σ Q w s:=⟨z,H,I,rw',q⟩
 exact subscriptTail_builtinR (x:=w) pl.typeIs slot_tuple_getitem.lookup
  (getItem_tuple (j:=j) (Q:=fun r s'=>r=w∧EP X pins σ Q r s') pl (by omega) (by omega) (by rw [List.size_toArray,← hl]; exact h1) (by simpa using ew) ⟨rfl,fin⟩) hs
theorem qK (its:List Value)(n j:Nat)(u:Value):Obj.mapSeq (·.setIfInBounds j u) { cls:=.type "list",data:=.seq its.toArray n }={ cls:=.type "list",data:=.seq (its.set j u).toArray n }:=by
 simp [Obj.mapSeq]
theorem Inv.lst {pins:List (Addr × Obj)}{σ:St}{H:Hp}{s:Shared}{p:Addr}{xs:List V}(I:Inv X pins σ H s)(h:H p=some (.lst xs)):
 ∃ (its:List Value)(n:Nat),aJ xs its∧s.heap.get? p=some { cls:=.type "list",data:=.seq its.toArray n }∧xs.length≤sizeLine:=by
 obtain ⟨z,its,n,r,e⟩:=I.hok p _ h
 exact ⟨its,n,r,e,z⟩
theorem Inv.lstUpd {pins:List (Addr × Obj)}{σ:St}{H:Hp}{s:Shared}{p:Addr}{xs ys:List V}{its its':List Value}{n n':Nat}{f:Obj->Obj}(I:Inv X pins σ H s)(h:H p=some (.lst xs))
 (ho:s.heap.get? p=some { cls:=.type "list",data:=.seq its.toArray n })(hf:f { cls:=.type "list",data:=.seq its.toArray n }={ cls:=.type "list",data:=.seq its'.toArray n' })(r:aJ ys its')(hz:ys.length≤sizeLine)(t:Nat):
 Inv X pins σ (upd H p (.lst ys)) { s with heap:=s.heap.update p f,toks:=t }:=by
 have e:(s.heap.update p f).get? p=some { cls:=.type "list",data:=.seq its'.toArray n' }:=by
  rw [Heap.get?_update_self f ho (by rw [hf] <;> rfl),hf]
 refine I.write (x:=p) (e:=p) (by rw [h]; trivial) (.inl rfl) (fun b u hb q=>(Heap.get?_update_other _ _ (Ne.symm hb)).trans q) ⟨_,e⟩ ?_
 exact ⟨hz,its',n',r,e⟩
noncomputable def rSetL:V->V->V->Hp->(Hp->Prop)->Prop:=fun o i v H Q=>∃ p xs k j,o = .ref p∧i = .int k∧H p=some (.lst xs)∧wQ xs.length k=some j∧Q (upd H p (.lst (xs.set j v)))
theorem jT:A0 X rSetL:=by
 intro pins s σ H o i v ov iv u Q I ro ri rv h
 obtain ⟨p,xs,k,j,rfl,rfl,hp,hj,q⟩:=h
 cases ro
 obtain ⟨t,rfl⟩:=ri
 obtain ⟨its,n,r,ho,hz⟩:=I.lst hp
 obtain ⟨h1,h2,h3,h4⟩:=rL hj
 have hl:=r.length
 have hn:=kE
 have I':Inv X pins σ (upd H p (.lst (xs.set j v))) { s with heap:=s.heap.update p (Obj.mapSeq (·.setIfInBounds j u)) }:=
  I.lstUpd hp ho (qK its n j u) (r.set rv j) (by rw [List.length_set]; exact hz) s.toks
 by_cases h0:0≤k
 ·have hk:k.toNat=j:=by
   rw [seqIndex_of h0 h4] at h1
   exact Option.some.inj h1
  exact PySem.W.ki_setAt ho h0 (by omega) (by rw [List.size_toArray,← hl]; exact h4) (by rw [hk]; exact ⟨_,I',q⟩)
 ·have hk:(k + (its.toArray.size:Int)).toNat=j:=by
   rw [seqIndex_neg (by omega) h3] at h1
   rw [List.size_toArray,← hl]
   exact Option.some.inj h1
  exact PySem.W.ki_setBack ho (by omega) (by rw [List.size_toArray,← hl]; exact h3) (by omega) (by rw [hk]; exact ⟨_,I',q⟩)
theorem nA (lo hi:Option Int)(n:Nat):(sliceBounds lo hi none n).1=((HT.c8 n 0 lo:Nat):Int)∧(sliceBounds lo hi none n).2.1=((HT.c8 n n hi:Nat):Int)∧(sliceBounds lo hi none n).2.2=1:=by
 refine ⟨?_,?_,rfl⟩
 ·cases lo with
  | none=>simp [sliceBounds,HT.c8]
  | some i =>
    simp only [sliceBounds,HT.c8,Option.getD_none,show (1:Int) > 0 by decide,if_true]
    by_cases h:i < 0
    ·simp only [h,if_true] <;> omega
    ·simp only [h,if_false] <;> omega
 ·cases hi with
  | none=>simp [sliceBounds,HT.c8]
  | some i =>
    simp only [sliceBounds,HT.c8,Option.getD_none,show (1:Int) > 0 by decide,if_true]
    by_cases h:i < 0
    ·simp only [h,if_true] <;> omega
    ·simp only [h,if_false] <;> omega
theorem lr (its:List Value)(lo hi:Option Int):slicePick its.toArray lo hi none=((its.drop (HT.c8 its.length 0 lo)).take (HT.c8 its.length its.length hi - HT.c8 its.length 0 lo)).toArray:=by
 obtain ⟨h1,h2,h3⟩:=nA lo hi its.toArray.size
 unfold slicePick
 rw [h1,h2,h3]
 simp only [sliceRange_one,pick_run,List.size_toArray] <;> rfl
noncomputable def BY (K:PySem.W.Frag):V->Option Int->Option Int->Hp->VK->Prop:=fun x lo hi H Q=>∃ a xs,x = .ref a∧aO K H a xs∧∀ p,H p=none->Q (.ref p) (upd H p (.lst (eK xs lo hi)))
theorem yg:AI X (BY X.K):=by
 intro pins s σ H x v vl vu lo hi sl Q I rx hs pl pu h
 obtain ⟨a,xs,rfl,hx,q⟩:=h
 cases rx
 obtain ⟨its,r,ht,hz⟩:=I.list hx
 have hlen:=r.length
 refine ⟨"list",_,slot_list_getitem.lookup,ht.isList.typeIs,?_⟩
 refine wpAny_getItem_list_slice ht.isList hs pl pu .none (by simp) ?_ (by rw [List.size_toArray] <;> omega)
 rw [lr,← hlen]
 refine ⟨.ref s.heap.objs.size,_,I.laid (t':=s.toks) (o:=.lst (eK xs lo hi)) (fun b ob q=>Heap.get?_push_of_some _ q) (Nat.le_refl _) ?_,rfl,q _ (I.hok.fresh (Nat.le_refl _))⟩
 exact ⟨Nat.le_trans (iV xs lo hi) hz,_,0,(r.drop (HT.c8 xs.length 0 lo)).take (HT.c8 xs.length xs.length hi - HT.c8 xs.length 0 lo),Heap.get?_push_size _ rfl⟩
noncomputable def eJ:V->Bool
 | .non=>true
 | .bl _=>true
 | .int _=>true
 | .str _=>true
 | _=>false
noncomputable def uV:V->V->Bool
 | .non,.non=>true
 | .bl a,.bl b=>a == b
 | .bl a,.int b=>(if a then 1 else 0) == b
 | .int a,.bl b=>a == (if b then 1 else 0)
 | .int a,.int b=>a == b
 | .str a,.str b=>a == b
 | _,_=>false
theorem pY {A:Around}{s:Shared}{y x:V}{u v:Value}(ry:aB y u)(rx:aB x v)(fy:eJ y=true)(fx:eJ x=true):SeqAt.EqAt A s u v (uV y x):=by
 cases y with
 | non =>
   cases ry
   cases x with
   | non=>cases rx; exact SeqAt.EqAt.same _
   | bl b=>cases rx; exact SeqAt.EqAt.none_bool b
   | int b=>obtain ⟨t,rfl⟩:=rx; exact SeqAt.EqAt.none_int b t
   | str b=>obtain ⟨t,rfl⟩:=rx; exact SeqAt.EqAt.none_str b t
   | _=>exact absurd (show false=true from fx) Bool.false_ne_true
 | bl a =>
   cases ry
   cases x with
   | non=>cases rx; exact SeqAt.EqAt.bool_none a
   | bl b=>cases rx; exact SeqAt.EqAt.bool_bool a b
   | int b=>obtain ⟨t,rfl⟩:=rx; exact SeqAt.EqAt.bool_int a b t
   | str b=>obtain ⟨t,rfl⟩:=rx; exact SeqAt.EqAt.bool_str a b t
   | _=>exact absurd (show false=true from fx) Bool.false_ne_true
 | int a =>
   obtain ⟨t',rfl⟩:=ry
   cases x with
   | non=>cases rx; exact SeqAt.EqAt.int_none a t'
   | bl b=>cases rx; exact SeqAt.EqAt.int_bool a t' b
   | int b=>obtain ⟨t,rfl⟩:=rx; exact SeqAt.EqAt.int_int a t' b t
   | str b=>obtain ⟨t,rfl⟩:=rx; exact SeqAt.EqAt.int_str a t' b t
   | _=>exact absurd (show false=true from fx) Bool.false_ne_true
 | str a =>
   obtain ⟨t',rfl⟩:=ry
   cases x with
   | non=>cases rx; exact SeqAt.EqAt.str_none a t'
   | bl b=>cases rx; exact SeqAt.EqAt.str_bool a t' b
   | int b=>obtain ⟨t,rfl⟩:=rx; exact SeqAt.EqAt.str_int a t' b t
   | str b=>obtain ⟨t,rfl⟩:=rx; exact SeqAt.EqAt.str_str a t' b t
   | _=>exact absurd (show false=true from fx) Bool.false_ne_true
 | _=>exact absurd (show false=true from fy) Bool.false_ne_true
noncomputable def uW (x:V)(u:Value):Bool:=match u with
 | .none=>uV .non x
 | .bool b=>uV (.bl b) x
 | .int i _=>uV (.int i) x
 | .str z _=>uV (.str z) x
 | _=>false
theorem gB {x y:V}{u:Value}(r:aB y u)(f:eJ y=true):uW x u=uV y x:=by
 cases y with
 | non=>cases r; rfl
 | bl b=>cases r; rfl
 | int i=>obtain ⟨t,rfl⟩:=r; rfl
 | str z=>obtain ⟨t,rfl⟩:=r; rfl
 | _=>exact absurd (show false=true from f) Bool.false_ne_true
theorem nN {x:V}:∀ {xs:List V}{us:List Value},aJ xs us->xs.all eJ=true->us.any (uW x)=xs.any fun y=>uV y x
 | _,_,.nil,_=>rfl
 | y :: xs,u :: us,.cons r t,f=>by
   rw [List.all_cons,Bool.and_eq_true] at f
   rw [List.any_cons,List.any_cons,gB r f.1,nN t f.2]
theorem ko {A:Around}{s:Shared}{x:V}{v:Value}(rx:aB x v)(fx:eJ x=true):∀ {xs:List V}{us:List Value},aJ xs us->xs.all eJ=true->∀ u∈us,SeqAt.EqAt A s u v (uW x u)
 | _,_,.nil,_=>fun u hu=>by cases hu
 | y :: xs,u :: us,.cons r t,f=>fun u' hu=>by
   rw [List.all_cons,Bool.and_eq_true] at f
   rcases List.mem_cons.mp hu with rfl | hu
   ·rw [gB r f.1]; exact pY r rx f.1 fx
   ·exact ko rx fx t f.2 u' hu
noncomputable def AJ (x:V)(xs:List V):Bool:=xs.any fun y=>uV y x
noncomputable def CY (K:PySem.W.Frag)(neg:Bool):R2:=fun x y H Q=>∃ p xs,y = .ref p∧(aO K H p xs∨bc K H p xs)∧eJ x=true∧xs.all eJ=true∧Q (.bl (if neg then !AJ x xs else AJ x xs)) H
theorem nQ:eZ X (compareOp .NotIn) (CY X.K true):=by
 intro pins s σ H x y v u Q I rx ry h
 obtain ⟨p,xs,rfl,hq,fx,fs,q⟩:=h
 cases ry
 rcases hq with hq | hq
 ·obtain ⟨its,r,pl,hz⟩:=I.list hq
  refine SeqAt.notIn_listAt (uW x) pl.isList (fun w hw=>ko rx fx r fs w (by simpa using hw)) ⟨.bl _,H,I,rfl,?_⟩
  rw [show its.toArray.any (uW x)=its.any (uW x) by simp,nN r fs]
  exact q
 ·obtain ⟨its,r,pl,hz⟩:=I.tuple hq
  refine SeqAt.notIn_tupleAt (uW x) pl (fun w hw=>ko rx fx r fs w (by simpa using hw)) ⟨.bl _,H,I,rfl,?_⟩
  rw [show its.toArray.any (uW x)=its.any (uW x) by simp,nN r fs]
  exact q
theorem aQ:cR X (.builtin "len") (fun xs H Q=>∃ p ys,xs=[.ref p]∧(aO X.K H p ys∨bc X.K H p ys)∧Q (.int ys.length) H):=by
 intro pins s σ H xs us Q I r h
 obtain ⟨p,ys,rfl,hq,q⟩:=h
 obtain ⟨u,rfl,rx⟩:=dH r
 cases rx
 have hn:=kE
 rcases hq with hq | hq
 ·obtain ⟨its,r',pl,hz⟩:=I.list hq
  have hlen:=r'.length
  exact Calls.call_len_list pl.isList (by simp only [List.size_toArray] <;> omega) ⟨.int ys.length,H,I.tok _,⟨s.toks + 1,by rw [List.size_toArray,hlen]⟩,q⟩
 ·obtain ⟨its,r',pl,hz⟩:=I.tuple hq
  have hlen:=r'.length
  exact len_tuple pl (by simp only [List.size_toArray] <;> omega) ⟨.int ys.length,H,I.tok _,⟨s.toks + 1,by rw [List.size_toArray,hlen]⟩,q⟩
theorem eY:cR X (.type "list") (fun xs H Q=>∃ p ys,xs=[.ref p]∧(aO X.K H p ys∨bc X.K H p ys)∧∀ l,H l=none->Q (.ref l) (upd H l (.lst ys))):=by
 intro pins s σ H xs us Q I r h
 obtain ⟨p,ys,rfl,hq,q⟩:=h
 obtain ⟨u,rfl,rx⟩:=dH r
 cases rx
 have fin:∀ (its:List Value),aJ ys its->ys.length≤sizeLine->∀ (h':Heap)(c':Nat),(∀ b o',s.heap.get? b=some o'->h'.get? b=some o') →
  h'.get? s.heap.objs.size=some { cls:=.type "list",dict:=none,data:=.seq its.toArray c',slots:=#[] }->EP X pins σ Q (.ref s.heap.objs.size) { s with heap:=h' }:=fun its r' hz h' c' kp e =>
  ⟨.ref s.heap.objs.size,_,I.laid (t':=s.toks) kp (Nat.le_refl _) (show bg X.prog X.w _ h' _ (.lst ys) from ⟨hz,its,c',r',e⟩),rfl,q _ (I.hok.fresh (Nat.le_refl _))⟩
 rcases hq with hq | hq
 ·obtain ⟨its,r',pl,hz⟩:=I.list hq
  have hlen:=r'.length
  obtain ⟨o,ho,hc,n,hd⟩:=pl.isList
  exact call_list_seq p (.inl rfl) ho hc hd (fun h' c' kp e=>fin its r' hz h' c' kp e) (by simp only [List.size_toArray] <;> omega)
 ·obtain ⟨its,r',pl,hz⟩:=I.tuple hq
  have hlen:=r'.length
  obtain ⟨o,ho,hc,n,hd⟩:=pl
  exact call_list_seq p (.inr rfl) ho hc hd (fun h' c' kp e=>fin its r' hz h' c' kp e) (by simp only [List.size_toArray] <;> omega)
theorem cE:cR X (.type "tuple") (fun xs H Q=>∃ p ys,xs=[.ref p]∧((aO X.K H p ys∧∀ l,H l=none->Q (.ref l) (upd H l (.tup ys)))∨(bc X.K H p ys∧Q (.ref p) H))):=by
 intro pins s σ H xs us Q I r h
 obtain ⟨p,ys,rfl,h⟩:=h
 obtain ⟨u,rfl,rx⟩:=dH r
 cases rx
 rcases h with ⟨hq,q⟩ | ⟨hq,q⟩
 ·obtain ⟨its,r',pl,hz⟩:=I.list hq
  have hlen:=r'.length
  refine call_tuple_list pl.isList (fun h' kp=>?_) (by simp only [List.size_toArray] <;> omega)
  have I1:Inv X pins σ H { s with heap:=h' }:=I.kept (t':=s.toks) kp
  have I2:Inv X pins σ (upd H h'.objs.size (.tup ys)) { s with heap:=h'.push { cls:=.type "tuple",data:=.seq its.toArray } }:=
   I1.laid (t':=s.toks) (fun b o e=>Heap.get?_push_of_some _ e) (Nat.le_refl _) (show bg X.prog X.w _ _ _ (.tup ys) from ⟨hz,its,r',IsTup.new _ _⟩)
  exact ⟨.ref h'.objs.size,_,I2,rfl,q _ (I1.hok.fresh (Nat.le_refl _))⟩
 ·obtain ⟨its,r',pl,hz⟩:=I.tuple hq
  exact call_tuple_same pl ⟨.ref p,H,I,rfl,q⟩
noncomputable def CL (K:PySem.W.Frag)(T:String)(x:V)(H:Hp):Prop:=match x with
 | .str _=>T="str"
 | .int _=>T="int"
 | .ref p=>(T="list"∧∃ xs,aO K H p xs)∨(T="tuple"∧∃ o,K.lookup p=some o∧o.cls = .type "tuple"∧o.dict=none) ∨
  (T="dict"∧((∃ kvs,H p=some (.dK kvs))∨∃ kvs,H p=some (.dT kvs)))∨(T="set"∧∃ S n,H p=some (.set S n))
 | _=>False
theorem Ae {pins:List (Addr × Obj)}{σ:St}{H:Hp}{s:Shared}{T:String}{x:V}{v:Value}(I:Inv X pins σ H s)(r:aB x v)(ty:CL X.K T x H):
 s.TypeIs v T∧∀ a,v = .ref a->∃ ob,s.heap.get? a=some ob∧ob.dict=none:=by
 cases x with
 | str z =>
   obtain ⟨t,rfl⟩:=r
   cases (show T="str" from ty)
   exact ⟨typeIs_str s z t,fun _ e=>nomatch e⟩
 | int i =>
   obtain ⟨t,rfl⟩:=r
   cases (show T="int" from ty)
   exact ⟨typeIs_int s i t,fun _ e=>nomatch e⟩
 | ref p =>
   cases r
   rcases ty with ⟨rfl,xs,hq⟩ | ⟨rfl,o,hk,hc,hd⟩ | ⟨rfl,hk⟩ | ⟨rfl,S,n,hk⟩
   ·obtain ⟨its,_,pl,_⟩:=I.list hq
    refine ⟨pl.isList.typeIs,fun a e=>?_⟩
    cases e
    obtain ⟨o,n,e,c,hd,_⟩:=pl
    exact ⟨o,e,hd⟩
   ·refine ⟨⟨o,I.kIn p o hk,hc⟩,fun a e=>?_⟩
    cases e
    exact ⟨o,I.kIn _ o hk,hd⟩
   ·have z:∃ o,s.heap.get? p=some o∧o.ExactDict:=by
     rcases hk with ⟨kvs,hk⟩ | ⟨kvs,hk⟩
     ·obtain ⟨_,_,_,_,o,_,_,e,ex,_⟩:=I.hok p _ hk
      exact ⟨o,e,ex⟩
     ·obtain ⟨_,_,_,_,o,_,_,e,ex,_⟩:=I.hok p _ hk
      exact ⟨o,e,ex⟩
    obtain ⟨o,e,ex⟩:=z
    refine ⟨⟨o,e,ex.1⟩,fun a e2=>?_⟩
    cases e2
    exact ⟨o,e,ex.2.1⟩
   ·obtain ⟨o,_,_,_,e,ex,_⟩:=I.hok p _ hk
    refine ⟨⟨o,e,ex.1⟩,fun a e2=>?_⟩
    cases e2
    exact ⟨o,e,ex.2.1⟩
 | _=>exact False.elim ty
noncomputable def CI (K:PySem.W.Frag)(T:String)(r:V->List V->Hp->VK->Prop)(to:TE)(t:TA):TE:=fun σ H Q=>to σ H fun x H1=>CL K T x H1∧t σ H1 fun xs H2=>r x xs H2 Q
variable {o e:Expr}{es:List Expr}{to:TE}{t:TA}{name:Str}{apos cpos:Pos}{T id:String}{r:V->List V->Hp->VK->Prop}
theorem og (pa:PlainAttrs T)(slot:Slot T name id)(hty:typeOf (.builtin id)=pure (.type "method_descriptor"))(hm:BG X id r)(ho:PE X o to)(ha:PA X (e :: es) t)
 (hbase:attributeBase o name X.env (eval o X.env)=eval o X.env:=by rfl)
 (hfew:((backTo cpos (starEach (e :: es) X.env)).all (fun x=>!x.1)&&(backToKw cpos (keywordEach [] X.env)).all (fun x=>x.1.isSome)
  && decide ((e :: es).length + ([]:List Keyword).length + (if ([]:List Keyword).isEmpty then 0 else 1) < 30))=true:=by rfl)
 (hline:(apos.endLine == cpos.line)=true:=by rfl)(hs:starEach (e :: es) X.env=(false,eval e X.env):: starEach es X.env:=by rfl)(hplain:(backTo cpos (starEach es X.env)).any (·.1)=false:=by rfl):
 PE X (.Call (.Attribute o name apos) (e :: es) [] cpos) (CI X.K T r to t):=by
 intro pins s σ H Q I h
 refine wpAny_Call_method_late hbase hfew hline rfl (bF (ho pins s σ H _ I h) fun v s1 ⟨x,H1,I1,r1,ty,q1⟩=>?_)
 obtain ⟨h1,h2⟩:=Ae I1 r1 ty
 refine ⟨T,id,pa,slot,hty,h1,h2,?_⟩
 have hA:=ha cpos pins s1 σ H1 _ I1 q1
 rw [hs] at hA ⊢
 refine Calls.callWith_builtin (by show (false || (backTo cpos (starEach es X.env)).any (·.1))=false; rw [hplain] <;> rfl) (Calls.evalArgs_plain ?_)
 exact bF hA fun us s2 ⟨vs,H2,I2,r2,q2⟩=>hm pins s2 σ H2 x vs v us Q I2 r1 r2 q2
/- xs.append(e),list.index on a module's tuple .. are BG facts of 06m -/
end
noncomputable def CQ (X:Cx)(id:String)(r:V->List V->Hp->VK->Prop):Prop :=
 ∀ (pins:List (Addr × Obj))(s:Shared)(σ:St)(H:Hp)(x:V)(xs:List V)(v:Value)(us:List Value)(Q:VK),Inv X pins σ H s->aB x v->aJ xs us->r x xs H Q →
   wpAny (model X.prog X.w) X.A (call (.builtin id) (v :: us)) (EP X pins σ Q) X.xe s
theorem aJ.one:∀ {x:V}{us:List Value},aJ [x] us->∃ u,us=[u]∧aB x u
 | _,_,.cons r .nil=>⟨_,rfl,r⟩
theorem aJ.eraseIdx:∀ {xs:List V}{us:List Value}(i:Nat),aJ xs us->aJ (xs.eraseIdx i) (us.eraseIdx i)
 | _,_,_,.nil=>.nil
 | _,_,0,.cons _ t=>t
 | _,_,i + 1,.cons r t=>.cons r (aJ.eraseIdx i t)
theorem mw {α:Type}:∀ (l:List α)(i:Nat),(l.eraseIdx i).length≤l.length
 | [],_=>Nat.le_refl _
 | _ :: _,0=>Nat.le_succ _
 | _ :: r,i + 1=>Nat.succ_le_succ (mw r i)
section
variable {X:Cx}{pins:List (Addr × Obj)}{σ:St}{H:Hp}{s:Shared}{l b:Addr}{xs ys zs:List V}
theorem Inv.lset {its its':List Value}{n:Nat}{f:Array Value->Array Value}{t':Nat}(I:Inv X pins σ H s)(hH:H l=some (.lst xs))
 (e:s.heap.get? l=some { cls:=.type "list",data:=.seq its.toArray n })(hf:f its.toArray=its'.toArray)(hv:aJ ys its')(hz:ys.length≤sizeLine):
 Inv X pins σ (upd H l (.lst ys)) { s with heap:=s.heap.update l (Obj.mapSeq f),toks:=t' }:=by
 have q:=PySem.IsL.update e f
 rw [hf] at q
 refine I.write (x:=l) (e:=l) (by rw [hH]; exact trivial) (.inl rfl) (fun b' u hb hu=>(Heap.get?_update_other s.heap (Obj.mapSeq f) (Ne.symm hb)).trans hu) ⟨_,q⟩ ?_
 exact ⟨hz,its',_,hv,q⟩
theorem Inv.lnew {its:List Value}{t':Nat}(I:Inv X pins σ H s)(hv:aJ ys its)(hz:ys.length≤sizeLine):
 Inv X pins σ (upd H s.heap.objs.size (.lst ys)) { s with heap:=s.heap.push { cls:=.type "list",data:=.seq its.toArray },toks:=t' }:=
 I.laid (fun _ _ q=>Heap.get?_push_of_some _ q) (Nat.le_refl _) ⟨hz,its,0,hv,Heap.get?_push_size _ rfl⟩
theorem Inv.fresh (I:Inv X pins σ H s):H s.heap.objs.size=none:=I.hok.fresh (Nat.le_refl _)
theorem Inv.lstM (I:Inv X pins σ H s)(hH:H l=some (.lst xs)):xs.length≤sizeLine∧∃ (its:List Value)(n:Nat),aJ xs its∧xs.length=its.length∧s.heap.get? l=some { cls:=.type "list",data:=.seq its.toArray n }:=by
 obtain ⟨z,its,n,r,e⟩:=I.hok l _ hH
 exact ⟨z,its,n,r,r.length,e⟩
end
section
variable {X:Cx}
noncomputable def rAppend:V->List V->Hp->VK->Prop:=fun x vs H Q=>∃ l xs y,x = .ref l∧vs=[y]∧H l=some (.lst xs)∧xs.length < sizeLine∧Q .non (upd H l (.lst (xs++[y])))
theorem lO:CQ X "list.append" rAppend:=by
 intro pins s σ H x vs v us Q I rx rv h
 obtain ⟨l,xs,y,rfl,rfl,hH,hz,q⟩:=h
 cases rx
 obtain ⟨u,rfl,ru⟩:=rv.one
 obtain ⟨z,its,n,r,hl,e⟩:=I.lstM hH
 refine call_meets F.slot_list_append ⟨_,e,rfl⟩ F.entry_list_append (F.args_list_append_2 _ _) (PySem.list_append l its.toArray n u (by rw [List.size_toArray]; omega)) ⟨e,?_⟩
 refine ⟨.non,_,I.lset (its':=its++[u]) hH e (by simp) (r.append (.cons ru .nil)) ?_,rfl,q⟩
 rw [List.length_append,List.length_singleton]
 omega
noncomputable def rPopAt:V->List V->Hp->VK->Prop:=fun x vs H Q=>∃ l xs i k y,x = .ref l∧vs=[.int i]∧H l=some (.lst xs)∧-(2 ^ 63)≤i∧i < 2 ^ 63∧seqIndex? i xs.length=some k∧xs[k]?=some y∧Q y (upd H l (.lst (xs.eraseIdx k)))
theorem wx:CQ X "list.pop" rPopAt:=by
 intro pins s σ H x vs v us Q I rx rv h
 obtain ⟨l,xs,i,k,y,rfl,rfl,hH,h1,h2,hk,hy,q⟩:=h
 cases rx
 obtain ⟨u,rfl,ru⟩:=rv.one
 obtain ⟨t,rfl⟩:=ru
 obtain ⟨z,its,n,r,hl,e⟩:=I.lstM hH
 obtain ⟨w,hw,rw'⟩:=r.get hy
 refine call_meets F.slot_list_pop ⟨_,e,rfl⟩ F.entry_list_pop (F.args_list_pop_2 _ _)
  (MeetsSeq.list_pop_at l its.toArray n i t k w (fitsIndex_both h1 h2) (by rw [List.size_toArray,← hl]; exact hk) (by rw [← Array.getElem?_toList]; exact hw) (by rw [List.size_toArray]; omega)) ⟨e,?_⟩
 refine ⟨y,_,I.lset (its':=its.eraseIdx k) hH e ?_ (r.eraseIdx k) ?_,rw',q⟩
 ·show its.toArray.eraseIdxIfInBounds k=(its.eraseIdx k).toArray
  rw [List.eraseIdxIfInBounds_toArray]
 ·have:=mw xs k
  omega
noncomputable def rCat:R2:=fun x y H Q=>∃ l b xs zs,x = .ref l∧y = .ref b∧H l=some (.lst xs)∧H b=some (.lst zs)∧xs.length + zs.length≤sizeLine∧∀ p,H p=none->Q (.ref p) (upd H p (.lst (xs++zs)))
theorem ql:eZ X (binaryOp .Add) rCat:=by
 intro pins s σ H x y v u Q I rx ry h
 obtain ⟨l,b,xs,zs,rfl,rfl,hH,hB,hz,q⟩:=h
 cases rx
 cases ry
 obtain ⟨z,its,n,r,hl,e⟩:=I.lstM hH
 obtain ⟨z2,its2,n2,r2,hl2,e2⟩:=I.lstM hB
 refine PySem.P.add_list e e2 ?_ (by rw [List.size_toArray,List.size_toArray]; omega)
 have ea:its.toArray++its2.toArray=(its++its2).toArray:=by simp
 rw [ea]
 exact ⟨.ref _,_,I.lnew (t':=s.toks) (r.append r2) (by rw [List.length_append]; omega),rfl,q _ I.fresh⟩
end
end L2
namespace Att
open PySem PySem.W PySem.Calls PyProof.Rows
theorem jg {P:Params}{h:Heap}:∀ (ns:List Int)(vs:List Value),WellAll P h vs (ns.map WData.int)->IntsAre vs ns:=by
 intro ns
 induction ns with
 | nil =>
   intro vs w
   rw [List.map_nil] at w
   cases w
   exact .nil
 | cons n ns ih =>
   intro vs w
   rw [List.map_cons] at w
   cases w with
   | cons a b =>
     cases a
     exact .cons _ _ (ih _ b)
theorem uo {l:OpenLaw}{n:Nat}(hn:l.most=some n){P:Params}{h:Heap}{args:List WData}{vals:List Value}
 (hpre:l.row.toRowW.claim.pre args=true)(hwl:WellAll P h vals args):
 ∃ a vs ns,vals=[Value.ref a]∧args=[WData.list (ns.map WData.int)]∧h.get? a=some { cls:=.type "list",data:=.seq vs.toArray }∧IntsAre vs ns∧ns.length≤n:=by
 have hsh:WShape.hasAll [] args [.list .int]=true:=(pre_splitW hpre).1
 have hc:l.pre.holds [] { args:=args }=true:=(pre_splitW hpre).2
 obtain ⟨d,r,rfl,h1,h2⟩:=hasAllW_cons hsh
 obtain rfl:=hasAllW_nil h2
 obtain ⟨xs,rfl,h3⟩:=hasW_list h1
 obtain ⟨ns,rfl⟩:=items_int h3
 have hlen:ns.length≤n:=by
  unfold OpenLaw.pre at hc
  have h4:(WTm.not (.lt (.lit (.int (n:Int))) (.len (.arg 0)))).holds [] { args:=[.list (ns.map .int)] }=true:=by
   have h4:=(holds_andW hc).1
   rw [hn] at h4
   exact h4
  have h5:=condW_of h4 (w_not (w_lt w_lit (w_len_list (w_arg rfl))))
  rw [List.length_map] at h5
  refine Nat.le_of_not_lt fun q=>?_
  have q':(n:Int) < ((ns.length:Nat):Int):=by omega
  first
   | (rw [decide_eq_true q'] at h5; exact absurd h5 (by decide))
   | (simp at h5; omega)
 cases hwl with
 | cons w1 w2 =>
   cases w2
   cases w1 with
   | list ho hall=>exact ⟨_,_,ns,rfl,rfl,ho,jg ns _ hall,hlen⟩
theorem uE (l:OpenLaw)(args:List WData):l.row.toRowW.claim.post args (.bool true) args=true :=
 postW_of (r:=l.row.toRowW) (X:=(true == true))
  (show WShape.has [] (.bool true) .bool=true by first | rfl | decide | simp [WShape.has,WShape.arms,WShape.armsAll])
  (show (WTm.eq .res (.lit (.bool true))).value [] { args:=args,res:=some (.bool true),after:=args }=some (.bool (true == true)) from w_eq_bool (w_res rfl) w_lit) rfl
theorem pi {l:OpenLaw}{n:Nat}{q:Program}{loose:List Str}{XP:(Str->Option Value)->Heap->Prop}{YP:World->Heap->Prop}{d:DefRec}
 (hn:l.most=some n)(hdf:d.params.defaults=[])
 (call:∀ (w:World)(s₀ s₁:Shared)(mg mb:Str->Option Value)(fa:Addr)(o:Obj)(pm cd doc:Value)(a:Addr)(vs:List Value)(ns:List Int),
  Ground q loose [] XP w s₀ mg mb s₁.heap->YP w s₁.heap →
  s₁.heap.get? fa=some o->o.data = .func (docDef d.name d.params d.body d.scope pm cd doc)->s₁.heap.CodeRec cd d.name->mg d.name=some (.ref fa) →
  s₁.heap.get? a=some { cls:=.type "list",data:=.seq vs.toArray }->IntsAre vs ns->ns.length≤n->s₁.gens = #[] →
  codeAny (model l.prog w) callerA (.call (.ref fa) ⟨[.ref a],[]⟩) (fun r s'=>r = .ok (.ret (.bool true))∧OldK s₁.heap s'.heap∧s'.os=s₁.os∧AllBare s'.gens) s₁):
 WalkO q loose XP YP l.row.toRowW d [] (fun f vs=>PySem.call f vs):=by
 intro w s₀ s₁ mg mb G Y fa o pm cd doc dV kV ho hd hcd hD hmg hg args vals as hpre hlay hrd hwl hlo
 obtain rfl:dV = .none:=Dflts.none hD hdf
 obtain rfl:kV = .none:=Dflts.noKw hD
 obtain ⟨a,vs,ns,rfl,rfl,hobj,hints,hlen⟩:=uo hn hpre hwl
 refine enter_call (codeAny_mono (call w s₀ s₁ mg mb fa o pm cd doc a vs ns G Y ho (fd_plain hd) hcd hmg hobj hints hlen hg) fun r s' hq=>?_)
 obtain ⟨rfl,h2,h3,h4⟩:=hq
 exact ⟨.inl ⟨.bool true,.bool true,[],rfl,fun _=>rfl,.bool true,uE l _,fun _=>⟨List.Pairwise.nil,fun _ hm=>(nomatch hm)⟩⟩,h2,h3,h4⟩
end Att
namespace L2
open PySem PySem.Spec PyProof.Rows
theorem lL:∀ {vs:List Value}{ns:List Int},IntsAre vs ns->aJ (ns.map V.int) vs
 | _,_,.nil=>.nil
 | _,_,.cons n t h=>.cons ⟨t,rfl⟩ (lL h)
structure Fun (K:PySem.W.Frag)(x qual:Str)(st:Stmt)(f:Addr)(fd:FuncData):Prop where
 ex:∃ (oc:Value)(od:Option Addr)(kV doc pm:Value)(an:Option Addr)(cdv ct:Value)(osl:Array (Option Value)),
  fd=PySem.W.fnOf x qual (cm st) (bv st) (aj st) .none kV doc pm an cdv ct∧K.lookup f=some ⟨oc,od,.func fd,osl⟩∧PySem.W.codeIn K cdv qual=true
 kp:PySem.W.keepIn K (.ref f)=true
section
variable {P:Program}{w:World}{K:PySem.W.Frag}{mg:Str->Option Value}{base:Heap}
theorem Fun.binds {x qual:Str}{st:Stmt}{f:Addr}{fd:FuncData}{ps:List Str}(F:Fun K x qual st f fd)
 (h:∀ (kV doc pm:Value)(an:Option Addr)(cdv ct:Value)(us:List Value),us.length=ps.length->bindArgs (PySem.W.fnOf x qual (cm st) (bv st) (aj st) .none kV doc pm an cdv ct) ⟨us,[]⟩=pure (ps.zip us)):ax K fd ps []:=by
 obtain ⟨oc,od,kV,doc,pm,an,cdv,ct,osl,rfl,lk,hcd⟩:=F.ex
 exact .all (h kV doc pm an cdv ct)
theorem Ab {x qual:Str}{st:Stmt}{f:Addr}{oc:Value}{od an:Option Addr}{osl:Array (Option Value)}{kV doc pm cdv ct:Value}(l:K.lookup f=some ⟨oc,od,.func (PySem.W.fnOf x qual (cm st) (bv st) (aj st) .none kV doc pm an cdv ct),osl⟩)
 (c:PySem.W.codeIn K cdv qual=true)(k:PySem.W.keepIn K (.ref f)=true):Fun K x qual st f (PySem.W.fnOf x qual (cm st) (bv st) (aj st) .none kV doc pm an cdv ct):=⟨⟨oc,od,kV,doc,pm,an,cdv,ct,osl,rfl,l,c⟩,k⟩
end
theorem ub {n:Nat}(h:n≤1000):n < sizeLine:=Nat.lt_of_le_of_lt h (by decide)
section
variable {X:Cx}
theorem pv (i:Nat){x:Str}{pos:Pos}(hN:X.N[i]?=some x:=by rfl)(hv:BK X.env.scope x:=by first | exact Or.inl rfl | exact Or.inr (Or.inl rfl) | exact Or.inr (Or.inr rfl))(hd:(x == ("__debug__":Str))=false:=by decide)
 (hcd:(x == ("__classdict__":Str))=false:=by decide):PE X (.Name x pos) (c7 i):=zL hN hv hd hcd
end
theorem bx {A B:Prop}(h:B):if false=true then A else B:=by
 rw [if_neg Bool.false_ne_true]
 exact h
theorem br {A B:Prop}(h:A):if true=true then A else B:=by
 rw [if_pos rfl]
 exact h
theorem b7 {c A B:Prop} [Decidable c](h1:c->A)(h2:¬ c->B):if c then A else B:=by
 by_cases h:c
 ·rw [if_pos h]
  exact h1 h
 ·rw [if_neg h]
  exact h2 h
noncomputable def au (H H':Hp):Prop:=∀ b o,H b=some o->H' b=some o
theorem au.refl (H:Hp):au H H:=fun _ _ h=>h
theorem au.trans {H H1 H2:Hp}(a:au H H1)(b:au H1 H2):au H H2:=fun c o h=>b c o (a c o h)
theorem dA {P:Program}{w:World}{H:Hp}{h:Heap}{a:Addr}{o:HO}(x:eA P w H h)(hn:H a=none)(new:bg P w (upd H a o) h a o):eA P w (upd H a o) h:=fun b u e=>by
 by_cases hb:b=a
 ·subst hb; rw [ac] at e; cases e; exact new
 ·rw [al hb] at e
  exact (x b u e).stay (fun c v _ q=>q) (fun c q=>by rw [al (ap q hn)]; exact q) fun c xs q=>by rw [al (ap q hn)]; exact q
section
variable {prog:Program}{w:World}{A:Around}{R:Result->Shared->Prop}{s:Shared}
theorem mX {elt target iter:Expr}{ifs:List Expr}{scope:Scope}{pos:Pos}{it acc:Value}{env:Env}(I:Nat->Shared->Prop)
 (turn:∀ n s,I n s->wpAny (model prog w) A (pyNext it) (fun r s₁=>match r with
  | none=>R (.ok .next) s₁
  | some v=>wpAny (model prog w) A (letOwnedTupleGo target it v) (fun _ s₁=>wpAny (model prog w) A (assign target env v) (fun _ s₂ =>
   wpAny (model prog w) A (forIn ifs true fun c r=>if r=true then do let ok ← isTrue c env (eval c env); pure (ForInStep.yield ok) else pure (ForInStep.yield r)) (fun ok s₃ =>
    if ok=true then wpAny (model prog w) A (eval elt env) (fun x s₄ =>
     wpAny (model prog w) A (call (.builtin "list.append") [acc,x]) (fun _ s₅=>∃ m,m < n∧I m s₅) (fun _ _=>False) s₄) (fun _ _=>False) s₃
    else ∃ m,m < n∧I m s₃) (fun _ _=>False) s₂) (fun _ _=>False) s₁) (fun _ _=>False) s₁) (fun _ _=>False) s)
 (n:Nat)(h:I n s):
 codeAny (model prog w) A (.compLoop (.ListComp elt [⟨target,iter,ifs,0⟩] scope pos) 0 it acc env) R s:=by
 refine codeAny_loop rfl I (fun n s hI=>?_) n h
 show wpAny _ A ((compTurn (.ListComp elt [⟨target,iter,ifs,0⟩] scope pos) 0 it acc env).onRaise (fun x=>do noteFrame x env; theTreesLotGoes x)) _ _ s
 refine wpAny_noted ?_
 rw [compTurn_list]
 refine wpAny_bind (wpAny_standAt (wpAny_bind (wpAny_mono (turn n s hI) (fun r s₁ h₁=>?_) fun _ _ z=>False.elim z)))
 cases r with
 | none=>exact wpAny_pure h₁
 | some v =>
   refine wpAny_bind (wpAny_mono h₁ (fun _ s₁' h₁'=>?_) fun _ _ z=>False.elim z)
   refine wpAny_bind (wpAny_mono h₁' (fun _ s₂ h₂=>wpAny_bind (wpAny_mono h₂ (fun ok s₃ h₃=>?_) fun _ _ z=>False.elim z)) fun _ _ z=>False.elim z)
   cases ok with
   | false=>exact wpAny_pure ⟨rfl,h₃⟩
   | true =>
     exact wpAny_bind (wpAny_bind (wpAny_mono h₃ (fun x s₄ h₄=>wpAny_bind (wpAny_mono h₄ (fun _ s₅ h₅=>wpAny_pure (wpAny_pure ⟨rfl,h₅⟩)) fun _ _ z=>False.elim z)) fun _ _ z=>False.elim z))
end
noncomputable def eW (names:List (Str × NameKind))(env:Env):List (Str × Addr):=((names.filter fun x=>x.2 == .free).map fun x=>(x.1,(env.cells.lookup x.1).getD 0)).reverse
theorem gz {scope:Scope}{env:Env}(h:∀ x∈scope.names,x.2 = .free->∃ c,env.cells.lookup x.1=some c):closureFor scope env=pure (eW scope.names env):=by
 have key:∀ (names:List (Str × NameKind))(cs:List (Str × Addr)),(∀ x∈names,x.2 = .free->∃ c,env.cells.lookup x.1=some c) →
  (forIn names cs (fun (x:Str × NameKind)(r:List (Str × Addr))=>if (x.2 == NameKind.free)=true then (do let a ← cellOf env x.1; pure (ForInStep.yield ((x.1,a):: r))) else pure (ForInStep.yield r)):Sem (List (Str × Addr)))=pure (eW names env++cs):=by
  intro names
  induction names with
  | nil=>intro cs _; rfl
  | cons x r ih =>
    intro cs hn
    rw [List.forIn_cons]
    obtain ⟨n,k⟩:=x
    by_cases hk:k = .free
    ·subst hk
     obtain ⟨c,hc⟩:=hn (n,.free) List.mem_cons_self rfl
     have hco:cellOf env n=pure c:=by unfold cellOf; rw [hc]
     simp only [beq_self_eq_true,if_true,hco,pure_bind]
     rw [ih _ fun y hy=>hn y (List.mem_cons_of_mem _ hy)]
     simp [eW,hc]
    ·have hb:(k == NameKind.free)=false:=by simpa using hk
     simp only [hb,Bool.false_eq_true,if_false,pure_bind]
     rw [ih _ fun y hy=>hn y (List.mem_cons_of_mem _ hy)]
     simp [eW,hb]
 have z:=key scope.names [] h
 rw [List.append_nil] at z
 unfold closureFor
 first
  | exact z
  | (simp only [bind_pure]; exact z)
  | (simp; exact z)
theorem oA {names:List (Str × NameKind)}{env:Env}(h:∀ x∈names,x.2 = .free->∃ c,env.cells.lookup x.1=some c){x:Str}{c:Addr}(e:(eW names env).lookup x=some c):env.cells.lookup x=some c:=by
 have m:=PySem.mem_of_lookup e
 unfold eW at m
 rw [List.mem_reverse,List.mem_map] at m
 obtain ⟨y,hy,e'⟩:=m
 rw [List.mem_filter] at hy
 obtain ⟨c',hc'⟩:=h y hy.1 (by simpa using hy.2)
 rw [hc'] at e'
 injection e' with e1 e2
 subst e1
 rw [hc']
 exact congrArg some e2
theorem pG {names:List (Str × NameKind)}{env:Env}{x:Str}(hm:(x,NameKind.free)∈names):∃ c,(eW names env).lookup x=some c:=by
 have m:∃ c,(x,c)∈eW names env:=⟨(env.cells.lookup x).getD 0,by
  unfold eW
  rw [List.mem_reverse,List.mem_map]
  exact ⟨(x,.free),List.mem_filter.mpr ⟨hm,rfl⟩,rfl⟩⟩
 obtain ⟨c,m⟩:=m
 cases q:(eW names env).lookup x with
 | some d=>exact ⟨d,rfl⟩
 | none =>
   exfalso
   have:∀ (l:List (Str × Addr)),(x,c)∈l->l.lookup x≠none:=by
    intro l
    induction l with
    | nil=>intro h; cases h
    | cons p r ih =>
      intro h
      rw [List.lookup_cons]
      rcases List.mem_cons.mp h with h | h
      ·subst h; simp
      ·split
       ·simp
       ·exact ih h
   exact this _ m q
noncomputable def d6 (X:Cx)(N:List Str)(scope:Scope)(C:Addr)(fp:List Addr)(s:Shared)(H:Hp):Cx where
 prog:=X.prog
 w:=X.w
 K:=X.K
 mg:=X.mg
 base:=X.base
 A:=X.A
 N:=N
 s₀:=s
 H₀:=H
 env:=compEnvC scope (eW scope.names X.env) C X.env
 outer:=X.stack
 stack:=X.stack
 ex:=fp
 fn:=fun _=>false
 calm:=X.calm
 pn:=[]
 xe:=fun _ _=>False
noncomputable def σC (nl:Nat)(js:List Nat)(σ:St):St:=List.replicate nl none++js.map fun j=>(σ[j]?).join
structure CompOk (X:Cx)(N:List Str)(nl:Nat)(js:List Nat)(osc scope:Scope):Prop where
 out:X.env.scope=osc
 kind:scope.kind = .function
 cell:∀ y∈scope.names,y.2 ≠ .cell
 names:∀ y∈scope.names,y.2 = .local->scope.names.lookup y.1=some .local
 free:∀ y∈scope.names,y.2 = .free->osc.names.lookup y.1=some .cell∨osc.names.lookup y.1=some .free
 len:N.length=nl + js.length
 src:Paired (fun j x=>X.N[j]?=some x∧(x,NameKind.free)∈scope.names) js (N.drop nl)
 nolf:∀ y∈scope.names,y.2 = .free->scope.names.lookup y.1≠some .local
theorem eQ {env:Env}:∀ {names:List (Str × NameKind)}{x:Str}{k:NameKind},(∀ y∈names,y.2 ≠ .cell) →
 (names.map fun (n,k)=>if (k == NameKind.free&&env.scope.kind == .function&&env.kindOf n == some .cell) then (n,NameKind.cell) else (n,k)).lookup x=some k->(k = .cell∨k = .free)->(x,NameKind.free)∈names
 | [],_,_,_,h,_=>by simp at h
 | (n,k0):: r,x,k,hc,h,hk=>by
   have h:List.lookup x ((if (k0 == NameKind.free&&env.scope.kind == .function&&env.kindOf n == some .cell)=true then (n,NameKind.cell) else (n,k0)):: r.map fun (n,k)=>if (k == NameKind.free&&env.scope.kind == .function&&env.kindOf n == some .cell) then (n,NameKind.cell) else (n,k))=some k:=h
   have ih:=@eQ env r x k fun y hy=>hc y (List.mem_cons_of_mem _ hy)
   by_cases hx:x=n
   ·subst hx
    have hk0:k0 = .free:=by
     by_cases hb:(k0 == NameKind.free&&env.scope.kind == .function&&env.kindOf x == some .cell)=true
     ·have:=(Bool.and_eq_true_iff.mp (Bool.and_eq_true_iff.mp hb).1).1
      simpa using this
     ·rw [if_neg hb] at h
      simp only [List.lookup_cons,beq_self_eq_true] at h
      have e:k0=k:=Option.some.inj h
      rcases hk with z | z
      ·exact absurd (e.trans z) (hc (x,k0) List.mem_cons_self)
      ·exact e.trans z
    subst hk0
    exact List.mem_cons_self
   ·have hb:(x == n)=false:=by simpa using hx
    refine List.mem_cons_of_mem _ (ih ?_ hk)
    by_cases hc':(k0 == NameKind.free&&env.scope.kind == .function&&env.kindOf n == some .cell)=true
    ·rw [if_pos hc'] at h; simp only [List.lookup_cons,hb] at h; exact h
    ·rw [if_neg hc'] at h; simp only [List.lookup_cons,hb] at h; exact h
section
variable {X:Cx}{tg iter elt:Expr}{ifs:List Expr}{scope osc:Scope}{pos:Pos}{N:List Str}{nl:Nat}{js:List Nat}
noncomputable def Bd (X:Cx)(ifs:List Expr)(t:TT):Prop :=
 ∀ (pins:List (Addr × Obj))(s:Shared)(σ:St)(H:Hp)(Q:Bool->Hp->Prop),Inv X pins σ H s->t σ H Q →
   wpAny (model X.prog X.w) X.A (forIn ifs true fun c r=>if r=true then do let ok ← isTrue c X.env (eval c X.env); pure (ForInStep.yield ok) else pure (ForInStep.yield r)) (TP X pins σ Q) X.xe s
noncomputable def tYes:TT:=fun _ H Q=>Q true H
theorem cL:Bd X [] tYes:=fun _ _ _ H _ I h=>wpAny_tests_nil ⟨H,I,h⟩
theorem dY {c:Expr}{t:TT}(h:PT X c t):Bd X [c] t:=fun pins s σ H Q I hw=>wpAny_tests_one (h pins s σ H Q I hw)
theorem dh {pins:List (Addr × Obj)}{σ:St}{H:Hp}{s:Shared}{b:Addr}{h':Heap}(I:Inv X pins σ H s)(f:c6 X pins H b)(sb:Heap.SameBut b s.heap h'):Inv X pins σ H { s with heap:=h' }:=
 I.turned (t':=s.toks) (fun c o hc e=>(sb.2 c hc).trans e) f.1 f.2.1 f.2.2.2.1 f.2.2.2.2.1 f.2.2.2.2.2
noncomputable def iY (J:It)(g:TG)(tt:TT)(te:TE)(W:Nat->Nat->List V->St->Hp->Prop)(Fin:List V->Hp->Prop):Prop :=
 ∀ i m xs σ' H',W i m xs σ' H'->xs.length < sizeLine∧((J.stop i H'∧Fin xs H') ∨
   (J.go i H'∧∀ x H2,J.yld i H' x H2->g x σ' H2 fun σ3 H3=>tt σ3 H3 fun b H4 =>
    if b=true then te σ3 H4 fun y H5=>∃ m',m' < m∧W (i + 1) m' (xs++[y]) σ3 H5 else ∃ m',m' < m∧W (i + 1) m' xs σ3 H4))
theorem um {pins:List (Addr × Obj)}{σ:St}{H:Hp}{s:Shared}{fp:List Addr}{h1:Heap}{C:Addr}{tk:Nat}(S:CompOk X N nl js osc scope)(I:Inv X pins σ H s)(f:∀ b∈fp,c6 X pins H b)(hfp:∀ b∈fp,b < s.heap.objs.size)
 (hC:s.heap.objs.size≤C)(old:∀ b o,s.heap.get? b=some o->h1.get? b=some o){m1:Str->Option Value}(hns:h1.Ns C m1):
 Inv (d6 X N scope C fp s H) [] (σC nl js σ) H { s with heap:=h1,toks:=tk }:=by
 have hfree:∀ y∈scope.names,y.2 = .free->X.env.kindOf y.1=some .cell∨X.env.kindOf y.1=some .free:=fun y hy hf=>by
  have:=S.free y hy hf
  rw [← S.out] at this
  exact this
 have hcells:∀ y∈scope.names,y.2 = .free->∃ c,X.env.cells.lookup y.1=some c:=fun y hy hf=>I.ok.has y.1 (hfree y hy hf)
 have sub:∀ x c,(eW scope.names X.env).lookup x=some c->X.env.cells.lookup x=some c:=fun x c e=>oA hcells e
 have nfs:∀ b∈fp,b ∉ dS X.stack:=fun b hb z=>by
  rcases List.mem_cons.mp (I.stkSub b z) with q | q
  ·exact (f b hb).2.1 q
  ·exact (f b hb).2.2.1 q
 refine ⟨⟨I.ok.mod,S.kind,I.ok.glob,I.ok.blt,hC,fun x y c e1 e2=>I.ok.inj x y c (sub x c e1) (sub y c e2),fun x hx=>?_,fun x c z _=>absurd z (by show ¬ (false=true); decide),I.ok.hd,I.ok.frames,.inl rfl,
  fun b hb=>⟨Nat.ne_of_lt (Nat.lt_of_lt_of_le (hfp b hb) hC),fun x c e=>(f b hb).2.2.2.2.1 x c (sub x c e)⟩,I.bs,Nat.le_trans I.ok.bsz I.sz,fun b o e hb=>?_,nfs,I.stack,I.stkFree⟩,
  rfl,I.bare,Un.kept old,⟨m1,hns,fun i x v e1 e2 e3=>?_⟩,fun x c e=>?_,I.hok.fresh hC,fun x c e=>I.freeC x c (sub x c e),fun p hp=>absurd (show p∈([]:List (Addr × Obj)) from hp) (by simp),I.hok.kept old,?_⟩
 ·have hx:(relabel scope X.env).names.lookup x=some .cell∨(relabel scope X.env).names.lookup x=some .free:=hx
  have m:(x,NameKind.free)∈scope.names:=by
   rcases hx with z | z
   ·exact eQ S.cell z (.inl rfl)
   ·exact eQ S.cell z (.inr rfl)
  exact pG m
 ·rcases (f b hb).2.2.2.1 with z | z
  ·exact I.ok.noex b o e z
  ·exact absurd (Nat.lt_of_lt_of_le (Heap.lt_size e) (Nat.le_trans I.ok.bsz z)) (Nat.lt_irrefl _)
 ·-- the names
  have e1:N[i]?=some x:=e1
  unfold σC at e2
  by_cases hi:i < nl
  ·rw [List.getElem?_append_left (by simpa using hi),List.getElem?_replicate] at e2
   split at e2 <;> cases e2
  ·obtain ⟨k,rfl⟩:∃ k,i=nl + k:=⟨i - nl,by omega⟩
   rw [List.getElem?_append_right (by simp),List.length_replicate,Nat.add_sub_cancel_left,List.getElem?_map] at e2
   cases ej:js[k]? with
   | none=>rw [ej] at e2; cases e2
   | some j =>
     rw [ej] at e2
     have e2:some ((σ[j]?).join)=some (some v):=e2
     have e2:=Option.some.inj e2
     have e4:σ[j]?=some (some v):=by
      cases q:σ[j]? with
      | none=>rw [q] at e2; cases e2
      | some z=>rw [q] at e2; exact congrArg some e2
     have e5:(N.drop nl)[k]?=some x:=by rw [List.getElem?_drop]; exact e1
     have gp:∀ {l1:List Nat}{l2:List Str}{k:Nat}{j:Nat}{x:Str},Paired (fun j x=>X.N[j]?=some x∧(x,NameKind.free)∈scope.names) l1 l2->l1[k]?=some j->l2[k]?=some x->X.N[j]?=some x∧(x,NameKind.free)∈scope.names:=by
      intro l1 l2 k j x p
      induction p generalizing k with
      | nil=>intro h; simp at h
      | cons r _ ih =>
        intro h1 h2
        cases k with
        | zero=>simp at h1 h2; subst h1; subst h2; exact r
        | succ k=>exact ih (by simpa using h1) (by simpa using h2)
     obtain ⟨hx,hm⟩:=gp S.src ej e5
     have hk:=hfree (x,.free) hm rfl
     obtain ⟨m,hn,hl⟩:=I.loc
     have vis:BK X.env.scope x:=by
      rcases hk with z | z
      ·exact .inr (.inl z)
      ·exact .inr (.inr z)
     obtain ⟨u,r,l⟩:=hl j x v hx e4 vis
     refine ⟨u,r,?_⟩
     rcases l with ⟨k1,_⟩ | ⟨_,c,hc,hcell⟩
     ·exfalso
      rcases hk with z | z <;> (rw [z] at k1; cases k1)
     ·obtain ⟨c',hc'⟩:=pG (env:=X.env) hm
      have:=sub x c' hc'
      rw [hc] at this
      cases this
      refine .inr ⟨?_,c,hc',?_⟩
      ·rcases e3 with z | z | z
       ·-- a name of the block's own: no
        exfalso
        have lk:scope.names.lookup x=some .local:=by
         have gen:∀ (l:List (Str × NameKind)),(l.map fun (n,k)=>if (k == NameKind.free&&X.env.scope.kind == .function&&X.env.kindOf n == some .cell) then (n,NameKind.cell) else (n,k)).lookup x=some .local->l.lookup x=some .local:=by
          intro l
          induction l with
          | nil=>intro h; simp at h
          | cons p r ih =>
            obtain ⟨n,k0⟩:=p
            intro h
            have h:List.lookup x ((if (k0 == NameKind.free&&X.env.scope.kind == .function&&X.env.kindOf n == some .cell)=true then (n,NameKind.cell) else (n,k0)):: r.map fun (n,k)=>if (k == NameKind.free&&X.env.scope.kind == .function&&X.env.kindOf n == some .cell) then (n,NameKind.cell) else (n,k))=some .local:=h
            cases hb:x == n with
            | true =>
              by_cases hc':(k0 == NameKind.free&&X.env.scope.kind == .function&&X.env.kindOf n == some .cell)=true
              ·rw [if_pos hc'] at h; simp only [List.lookup_cons,hb] at h; cases h
              ·rw [if_neg hc'] at h; simp only [List.lookup_cons,hb] at h ⊢; exact h
            | false =>
              simp only [List.lookup_cons,hb]
              refine ih ?_
              by_cases hc':(k0 == NameKind.free&&X.env.scope.kind == .function&&X.env.kindOf n == some .cell)=true
              ·rw [if_pos hc'] at h; simp only [List.lookup_cons,hb] at h; exact h
              ·rw [if_neg hc'] at h; simp only [List.lookup_cons,hb] at h; exact h
         exact gen _ z
        exact S.nolf (x,.free) hm rfl lk
       ·exact .inl z
       ·exact .inr z
      ·obtain ⟨o,ho,hd⟩:=hcell
       exact ⟨o,old _ _ ho,hd⟩
 ·obtain ⟨v,o,ho,hd⟩:=I.cell x c (sub x c e)
  exact ⟨v,o,old _ _ ho,hd⟩
 ·show (σC nl js σ).length=N.length
  unfold σC
  rw [List.length_append,List.length_replicate,List.length_map,S.len]
noncomputable abbrev yf (ys:List Value)(k:Nat):Obj:={ cls:=.type "list",data:=.seq ys.toArray k }
theorem kn {pins:List (Addr × Obj)}{σ:St}{H:Hp}{s:Shared}{J:It}{it:Addr}{fp:List Addr}{tn:Nat->Heap->Prop}{g:TG}{tt:TT}{te:TE}{W:Nat->Nat->List V->St->Hp->Prop}{Fin:List V->Hp->Prop}
 {E:Value->Shared->Prop}{RR:Value->Addr->Result->Shared->Prop}
 (S:CompOk X N nl js osc scope)(hc:X.calm=true)(hg:∀ C fp s H,PG (d6 X N scope C fp s H) tg g)(ht:∀ C fp s H,Bd (d6 X N scope C fp s H) ifs tt)(he:∀ C fp s H,PE (d6 X N scope C fp s H) elt te)
 (I:Inv X pins σ H s)(T:Turn X.prog X.w X.K tg J fp it tn)(st:tn 0 s.heap)(f:∀ b∈fp,c6 X pins H b)(w0:∃ m,W 0 m [] (σC nl js σ) H)(hW:iY J g tt te W Fin)
 (hRR:∀ (D C:Addr)(H':Hp)(s':Shared)(xs:List V)(m:Str->Option Value),Inv X pins σ (upd H' D (.lst xs)) s'->H' D=none->s'.heap.Ns C m->c6 X pins (upd H' D (.lst xs)) C->Fin xs H'->RR (.ref D) C (.ok .next) s'):
 wpAny (model X.prog X.w) X.A (newList []) (fun acc s₃=>wpAny (model X.prog X.w) X.A (newFunctionEnv scope X.env.globals (eW scope.names X.env) [] X.env.qual none .none (some X.env)) (fun cenv s₄ =>
  codeAny (model X.prog X.w) X.A (.compStart (.ListComp elt [⟨tg,iter,ifs,0⟩] scope pos) 0 (.ref it) acc { cenv with scope:=relabel scope X.env }) (RR acc cenv.locals) s₄) E s₃) E s:=by
 have hfp:∀ b∈fp,b < s.heap.objs.size:=fun b hb=>by
  obtain ⟨o,e,_⟩:=T.obj 0 _ st b hb
  exact Heap.lt_size e
 refine wpAny_newObj_type (wpAny_newFunctionEnv S.cell (by intro y hy; simp at hy) (fun h₁ hns₁ hsb₁=>?_) S.kind)
 dsimp only at hns₁ hsb₁ ⊢
 generalize hH2:s.heap.push { cls:=.type "list",dict:=none,data:=.seq ([]:List Value).toArray }=H2 at hns₁ hsb₁ ⊢
 have hC:H2.objs.size=s.heap.objs.size + 1:=by rw [← hH2,Heap.size_push]
 have hDC:s.heap.objs.size≠H2.objs.size:=by rw [hC]; exact Nat.ne_of_lt (Nat.lt_succ_self _)
 have below:∀ b,b < s.heap.objs.size->b≠H2.objs.size∧b≠s.heap.objs.size:=fun b hb=>⟨by rw [hC]; exact Nat.ne_of_lt (Nat.lt_succ_of_lt hb),Nat.ne_of_lt hb⟩
 have old:∀ b o,s.heap.get? b=some o->h₁.get? b=some o:=fun b o e=>hsb₁.extBut b o (below b (Heap.lt_size e)).1 (Heap.get?_push_of_some _ (hH2 ▸ Heap.get?_push_of_some _ e))
 have hacc:h₁.get? s.heap.objs.size=some { cls:=.type "list",data:=.seq ([]:List Value).toArray 0 }:=hsb₁.extBut _ _ hDC (Heap.get?_push_of_some _ (hH2 ▸ Heap.get?_push_size _ rfl))
 have hCle:s.heap.objs.size≤H2.objs.size:=by rw [hC]; exact Nat.le_succ _
 have hcells:∀ y∈scope.names,y.2 = .free->∃ c,X.env.cells.lookup y.1=some c:=fun y hy hf=>by
  have z:=S.free y hy hf
  rw [← S.out] at z
  exact I.ok.has y.1 z
 have sub:∀ x c,(eW scope.names X.env).lookup x=some c->X.env.cells.lookup x=some c:=fun x c e=>oA hcells e
 have clt:∀ x c,(eW scope.names X.env).lookup x=some c->c < s.heap.objs.size:=fun x c e=>by
  obtain ⟨v,q⟩:=I.cell x c (sub x c e)
  exact q.lt
 have nfs:∀ b∈fp,b ∉ dS X.stack:=fun b hb z=>by
  rcases List.mem_cons.mp (I.stkSub b z) with q | q
  ·exact (f b hb).2.1 q
  ·exact (f b hb).2.2.1 q
 have dfs:s.heap.objs.size ∉ dS X.stack:=fun z=>by
  rcases List.mem_cons.mp (I.stkSub _ z) with q | q
  ·exact absurd I.lt (by rw [← q]; exact Nat.lt_irrefl _)
  ·exact I.nofs (Nat.le_refl _) q
 have dfp:s.heap.objs.size ∉ fp:=fun z=>Nat.lt_irrefl _ (hfp _ z)
 have fpk:∀ {H':Hp}{ob:Obj},(∀ b∈fp,H' b=none)->∀ b∈fp,c6 (d6 X N scope H2.objs.size fp s H) [(s.heap.objs.size,ob)] H' b:=fun {H' ob} hn b hb =>
  ⟨hn b hb,(below b (hfp b hb)).1,nfs b hb,.inl hb,fun x c e=>(f b hb).2.2.2.2.1 x c (sub x c e),fun p hp z=>by
   have e:p=(s.heap.objs.size,ob):=by
    have:p∈[(s.heap.objs.size,ob)]:=hp
    simpa using this
   subst e
   exact dfp (by rw [show s.heap.objs.size=b from z]; exact hb)⟩
 have dOk:∀ {H':Hp},H' s.heap.objs.size=none->c6 (d6 X N scope H2.objs.size fp s H) [] H' s.heap.objs.size:=fun {H'} hn =>
  ⟨hn,hDC,dfs,.inr (Nat.le_refl _),fun x c e=>Nat.ne_of_lt (clt x c e),fun p hp=>absurd (show p∈([]:List (Addr × Obj)) from hp) (by simp)⟩
 have pinD:∀ {σ':St}{H':Hp}{s':Shared}{ys:List Value}{k:Nat},Inv (d6 X N scope H2.objs.size fp s H) [] σ' H' s'->H' s.heap.objs.size=none->s'.heap.get? s.heap.objs.size=some (yf ys k) →
  Inv (d6 X N scope H2.objs.size fp s H) [(s.heap.objs.size,yf ys k)] σ' H' s':=fun {σ' H' s' ys k} I' hn hl=>I'.pins_of fun p hp=>by
  have e:p=(s.heap.objs.size,yf ys k):=by simpa using hp
  subst e
  exact ⟨hl,hn,hDC,dfs,fun v z=>by cases z⟩
 have oM:∀ s₃:Shared,s₃={ s with heap:=h₁,toks:=s.toks + ([]:List (Str × Value)).length } →
  codeAny (model X.prog X.w) X.A (.compLoop (.ListComp elt [⟨tg,iter,ifs,0⟩] scope pos) 0 (.ref it) (.ref s.heap.objs.size) (compEnvC scope (eW scope.names X.env) H2.objs.size X.env))
   (RR (.ref s.heap.objs.size) H2.objs.size) s₃:=by
  rintro s₃ rfl
  obtain ⟨m0,w0⟩:=w0
  have I0:Inv (d6 X N scope H2.objs.size fp s H) [] (σC nl js σ) H { s with heap:=h₁,toks:=s.toks + ([]:List (Str × Value)).length }:=um S I f hfp hCle old hns₁
  refine mX (fun n s'=>∃ i σ' H' xs ys k,Inv (d6 X N scope H2.objs.size fp s H) [(s.heap.objs.size,yf ys k)] σ' H' s'∧tn i s'.heap∧(∀ b∈fp,H' b=none)∧aJ xs ys∧W i n xs σ' H') ?_ m0
   ⟨0,σC nl js σ,H,[],[],0,pinD I0 (I.hok.fresh (Nat.le_refl _)) hacc,T.keep _ _ _ st fun b _ o e=>old b o e,fun b hb=>(f b hb).1,.nil,w0⟩
  rintro n s' ⟨i,σ',H',xs,ys,k,I',st',fr',rv,w'⟩
  obtain ⟨hz,hw⟩:=hW i n xs σ' H' w'
  rcases hw with ⟨stop,fin⟩ | ⟨go,step⟩
  ·refine wpAny_mono (T.done (d6 X N scope H2.objs.size fp s H) rfl rfl rfl hc i _ s' σ' H' (fun _ _=>False) I' (fpk fr') st' stop) (fun r s1 ⟨hr,I1⟩=>?_) fun _ _ z=>z
   subst hr
   obtain ⟨p1,p2,_⟩:=I1.pin (s.heap.objs.size,yf ys k) (by show _∈([]:List (Addr × Obj))++[_]; simp)
   have u1:Un (dS X.stack) fp H H' s.heap s1.heap:=I1.base
   have u2:Un (dS X.stack) fp H (upd H' s.heap.objs.size (.lst xs)) s.heap s1.heap:=⟨u1.keep,u1.slot,fun b o e n hx=>by rw [al (Nat.ne_of_lt (Heap.lt_size e))]; exact u1.free b o e n hx,u1.there,
    fun b zs e=>by rw [al (ap (u1.tups b zs e) p2)]; exact u1.tups b zs e,fun b o zs e=>by rw [al (ap (u1.frzs b o zs e) p2)]; exact u1.frzs b o zs e,fun b ps e=>by
     obtain ⟨mo,q⟩:=u1.tbls b ps e
     exact ⟨mo,by rw [al (ap q p2)]; exact q⟩⟩
   have hk:eA X.prog X.w (upd H' s.heap.objs.size (.lst xs)) s1.heap:=dA I1.hok p2 ⟨Nat.le_of_lt hz,ys,k,rv,p1⟩
   have I3:Inv X pins σ (upd H' s.heap.objs.size (.lst xs)) s1:=I.call' I1.os u2 hk I1.bare fun b hb=>⟨(f b hb).2.2.2.1,(f b hb).2.1,(f b hb).2.2.2.2.1,(f b hb).2.2.2.2.2⟩
   obtain ⟨mm,hnn,_⟩:=I1.loc
   have hnC:upd H' s.heap.objs.size (.lst xs) H2.objs.size=none:=by rw [al (Ne.symm hDC)]; exact I1.free
   exact hRR _ _ H' s1 xs mm I3 p2 hnn (I.fpOk hCle hnC) fin
  ·refine wpAny_mono (T.item (d6 X N scope H2.objs.size fp s H) rfl rfl rfl hc i _ s' σ' H' (fun _ _=>False) I' (fpk fr') st' go) (fun r s1 ⟨u,hr,h4⟩=>?_) fun _ _ z=>z
   subst hr
   refine wpAny_mono h4 (fun _ s2 ⟨x,H2',I2,r2,y2,st2,fr2⟩=>?_) fun _ _ z=>z
   have I2':=I2.pinned (fpk fr2) (T.obj _ _ st2)
   refine wpAny_mono (hg _ _ _ _ _ s2 σ' H2' x u _ I2' r2 (step x H2' y2)) (fun _ s3 ⟨σ3,H3,I3,q3⟩=>?_) fun _ _ z=>z
   refine wpAny_mono (ht _ _ _ _ _ s3 σ3 H3 _ I3 q3) (fun ok s4 ⟨H4,I4,q4⟩=>?_) fun _ _ z=>z
   have back:∀ {s5:Shared}{H5:Hp},Inv (d6 X N scope H2.objs.size fp s H) ([(s.heap.objs.size,yf ys k)]++kZ fp s2.heap) σ3 H5 s5->tn (i + 1) s5.heap∧∀ b∈fp,H5 b=none:=fun {s5 H5} I5 =>
    ⟨T.keep _ _ _ st2 fun b hb o e=>(I5.pin (b,o) (List.mem_append_right _ (List.mem_append_right _ (eM hb e)))).1,fun b hb=>by
     obtain ⟨o,e,d⟩:=T.obj _ _ st2 b hb
     exact (I5.pin (b,o) (List.mem_append_right _ (List.mem_append_right _ (eM hb e)))).2.1⟩
   cases ok with
   | false =>
     rw [if_neg Bool.false_ne_true] at q4 ⊢
     obtain ⟨m',hm,w4⟩:=q4
     exact ⟨m',hm,i + 1,σ3,H4,xs,ys,k,I4.unpinned,(back I4).1,(back I4).2,rv,w4⟩
   | true =>
     rw [if_pos rfl] at q4 ⊢
     refine wpAny_mono (he _ _ _ _ _ s4 σ3 H4 _ I4 q4) (fun v s5 ⟨y,H5,I5,r5,m',hm,w5⟩=>?_) fun _ _ z=>z
     obtain ⟨p1,p2,_⟩:=I5.pin (s.heap.objs.size,yf ys k) (List.mem_append_right _ (List.mem_append_left _ (by simp)))
     obtain ⟨st5,fr5⟩:=back I5
     refine append_at (its:=ys.toArray) p1 (fun h' sb hD=>?_) (by rw [List.size_toArray,← rv.length]; exact Nat.le_of_lt hz)
     have I6:Inv (d6 X N scope H2.objs.size fp s H) [] σ3 H5 { s5 with heap:=h' }:=dh (I5.pins_of (pins':=[]) fun p hp=>absurd hp (by simp)) (dOk p2) sb
     refine ⟨m',hm,i + 1,σ3,H5,xs++[y],ys++[v],k + 1,pinD I6 p2 ?_,T.keep _ _ _ st5 fun b hb o e=>(sb.2 b fun z=>dfp (z ▸ hb)).trans e,fr5,rv.append (.cons r5 .nil),w5⟩
     rw [hD]
     show some _=some (yf (ys++[v]) (k + 1))
     rw [yf,← List.push_toArray]
 exact codeAny_compStart_list (oM _ rfl) (T.self X.A 0 _ _ _ (T.keep _ _ _ st fun b _ o e=>old b o e) (oM _ rfl))
noncomputable def sJ (wi:TI)(g:TG)(tt:TT)(te:TE)(nl:Nat)(js:List Nat):TE:=fun σ H Q=>wi σ H fun J H1 =>
 ∃ W:Nat->Nat->List V->St->Hp->Prop,(∃ m,W 0 m [] (σC nl js σ) H1)∧iY J g tt te W fun xs H'=>∀ D,H' D=none->Q (.ref D) (upd H' D (.lst xs))
theorem jz {pins:List (Addr × Obj)}{σ:St}{H:Hp}{s:Shared}(S:CompOk X N nl js osc scope)(I:Inv X pins σ H s):closureFor scope X.env=pure (eW scope.names X.env):=gz fun y hy hf=>by
 have z:=S.free y hy hf
 rw [← S.out] at z
 exact I.ok.has y.1 z
theorem cg {wi:TI}{g:TG}{tt:TT}{te:TE}(S:CompOk X N nl js osc scope)(hc:X.calm=true)(hi:PI X tg iter wi)(hg:∀ C fp s H,PG (d6 X N scope C fp s H) tg g)(ht:∀ C fp s H,Bd (d6 X N scope C fp s H) ifs tt)
 (he:∀ C fp s H,PE (d6 X N scope C fp s H) elt te)(hs:∀ x,foldedSetIterable iter X.env x=pure x:=by intro _; rfl):
 PE X (.ListComp elt [⟨tg,iter,ifs,0⟩] scope pos) (sJ wi g tt te nl js):=by
 intro pins s σ H Q I h
 rw [eval_ListComp]
 refine wpAny_comprehension_free (use:=none) rfl hs (jz S I) S.kind S.names (bF (hi pins s σ H _ I h) fun v s1 h1=>bF h1 fun itv s2 h2=>?_)
 obtain ⟨it,fp,tn,J,H2,e,I2,T,st2,f2,W,w0,hW⟩:=h2
 subst e
 refine kn (RR:=fun acc C=>compPost (model X.prog X.w) X.A X.xe none (EP X pins σ Q) acc C) S hc hg ht he I2 T st2 f2 w0 hW ?_
 intro D C H' s' xs m I3 hD hn fC fin
 exact ⟨m,hn,fun h' sb=>⟨.ref D,_,dh I3 fC sb,rfl,fin D hD⟩⟩
theorem jq {i:Nat}{y:Str}{py spos:Pos}{wi:TI}{g:TG}{tt:TT}{te:TE}(S:CompOk X N nl js osc scope)(hc:X.calm=true)(hN:X.N.Nodup)(hy:X.N[i]?=some y)(hl:Bo X.env.scope y)(hi:PI X tg iter wi)
 (hg:∀ C fp s H,PG (d6 X N scope C fp s H) tg g)(ht:∀ C fp s H,Bd (d6 X N scope C fp s H) ifs tt)(he:∀ C fp s H,PE (d6 X N scope C fp s H) elt te)
 (hsw:swapsWith (.ListComp elt [⟨tg,iter,ifs,0⟩] scope pos) (some (.Name y py)) spos.line X.env=pure true)(hs:∀ x,foldedSetIterable iter X.env x=pure x:=by intro _; rfl)
 (hf:X.fn y=true∨X.env.scope.names.lookup y=some .local:=by first | exact .inl rfl | exact .inr rfl | assumption):
 PS X (.Assign [.Name y py] (.ListComp elt [⟨tg,iter,ifs,0⟩] scope pos) spos) (yz (sJ wi g tt te nl js) (bD i)):=by
 intro pins s σ H D I h
 rw [exec_Assign_Name_used _ _ _ _ hsw]
 refine wpAny_bind (wpAny_standAt (wpAny_bind ?_))
 show wpAny _ X.A (do let _ ← comprehension (.ListComp elt [⟨tg,iter,ifs,0⟩] scope pos) scope X.env _ (newList []) false (eval iter X.env) (some (assign (.Name y py) X.env))) _ _ s
 refine wpAny_bind (wpAny_mono (wpAny_comprehension_free (use:=some (assign (.Name y py) X.env)) (Q:=fun _ s'=>SP X pins D .next s') rfl hs (jz S I) S.kind S.names
  (bF (hi pins s σ H _ I h) fun v s1 h1=>bF h1 fun itv s2 h2=>?_)) (fun _ s' hq=>wpAny_pure (wpAny_pure hq)) fun _ _ e=>e)
 obtain ⟨it,fp,tn,J,H2,e,I2,T,st2,f2,W,w0,hW⟩:=h2
 subst e
 refine kn (RR:=fun acc C=>compPost (model X.prog X.w) X.A X.xe (some (assign (.Name y py) X.env)) (fun _ s'=>SP X pins D .next s') acc C) S hc hg ht he I2 T st2 f2 w0 hW ?_
 intro Dd C H' s' xs m I3 hD hn fC fin
 show wpAny _ X.A (assign (.Name y py) X.env (.ref Dd)) _ _ _
 refine wpAny_assign_Name (lU I3 hN hy hl (show aB (.ref Dd) (.ref Dd) from rfl) (fun s4 I4 ⟨a,sb,ha⟩=>?_) hf)
 refine ⟨m,hn.sameBut sb ?_,fun h' sb'=>⟨_,_,dh I4 fC sb',fin Dd hD⟩⟩
 rcases ha with z | z
 ·rw [z]; exact fC.2.1
 ·exact fun q=>fC.2.2.2.2.1 _ _ z q.symm
end
theorem bg.there {P:Program}{w:World}{H:Hp}{h:Heap}{a:Addr}{o:HO}(x:bg P w H h a o):∃ ob,h.get? a=some ob:=by
 cases o with
 | lst xs=>obtain ⟨_,_,_,_,e⟩:=x; exact ⟨_,e⟩
 | tup xs=>obtain ⟨_,_,_,ob,e,_⟩:=x; exact ⟨_,e⟩
 | dK kvs=>obtain ⟨_,_,_,_,o,_,_,e,_⟩:=x; exact ⟨_,e⟩
 | dT kvs=>obtain ⟨_,_,_,_,o,_,_,e,_⟩:=x; exact ⟨_,e⟩
 | set S n=>obtain ⟨o,_,_,_,e,_⟩:=x; exact ⟨_,e⟩
 | ins C dx fs=>obtain ⟨_,_,_,e,_⟩:=x; exact ⟨_,e⟩
 | own y=>obtain ⟨_,e⟩:=x; exact ⟨_,e⟩
 | xd fs=>obtain ⟨_,⟨_,_,_,e,_⟩,_⟩:=x; exact ⟨_,e⟩
 | rng lo hi=>obtain ⟨_,_,_,e⟩:=x; exact ⟨_,e⟩
 | frz ob u=>obtain ⟨e,_⟩:=x; exact ⟨_,e⟩
 | tbl ps=>exact ⟨_,(show h.get? a=some _ from x)⟩
 | met f y=>exact ⟨_,(show h.get? a=some _ from x)⟩
 | ext φ=>obtain ⟨_,⟨_,e⟩,_⟩:=x; exact ⟨_,e⟩
structure Flies (P:Program)(w:World)(l:List Env)(H₀:Hp)(h₀:Heap)(a:Addr)(cls:Value)(H:Hp)(h:Heap)(B:Heap)(a0:Value):Prop where
 fly:Heap.FlyingW B l a cls a0 h
 un:Un (dS l) [] H₀ H h₀ h
 keep:∀ b o,h₀.get? b=some o->H₀ b=none->b ∉ dS l->B.get? b=some o
 there:∀ b o,h₀.get? b=some o->b ∉ dS l->∃ o',B.get? b=some o'
 hok:eA P w H B
 new:H a=none
noncomputable def aU (P:Program)(w:World):CXT:=fun outer H₀ s₀ E e s'=>∃ (a:Addr)(cls a0:Value)(B:Heap)(H:Hp),e = .ref a∧s'.os=s₀.os∧AllBare s'.gens∧Flies P w outer H₀ s₀.heap a cls H s'.heap B a0∧E cls none H
section
variable {X:Cx}{pins:List (Addr × Obj)}{σ:St}{H H':Hp}{s s':Shared}{P:Program}{w:World}
theorem cG {h base:Heap}{l:List Env}(F:h.FunFrames base l){b:Addr}{o:Obj}(hb:b∈dS l)(e:h.get? b=some o):∀ vs,o.data ≠ .fields vs:=by
 obtain ⟨_,o',e',d⟩:=F.mem hb
 rw [e] at e'
 cases e'
 exact d
theorem pZ {outer:List Env}{h' h'' B:Heap}{e t:Addr}{cls:Value}{args:List Value}(I:Inv X pins σ H s)(hex:X.ex=[])(hst:X.stack=X.env :: X.outer)(hm:Heap.MadeExcOf s.heap h' e cls args)
 (hB:B=PySem.W.hideAll s.heap (dS X.stack))(hf:Heap.FlyingW B X.outer e cls (.ref t) h'')(hsm:h'.UpToSlots h''):Flies X.prog X.w X.outer X.H₀ X.s₀.heap e cls H h'' B (.ref t):=by
 subst hB
 have st:=hf.1
 have inB:∀ b o,s.heap.get? b=some o->b ∉ dS X.stack->(PySem.W.hideAll s.heap (dS X.stack)).get? b=some o:=fun b o e n=>PySem.W.hideAll_get _ e n
 have old:∀ b o,X.s₀.heap.get? b=some o->b ∉ dS X.outer->b ∉ dS X.stack:=fun b o e n z=>by
  rcases List.mem_cons.mp (I.stkSub b z) with q | q
  ·exact absurd (Nat.lt_of_lt_of_le (Heap.lt_size e) I.ok.above) (by rw [q]; exact Nat.lt_irrefl _)
  ·exact n q
 have base:Un (dS X.outer) [] X.H₀ H X.s₀.heap s.heap:=by
  have z:=I.base
  rw [hex] at z
  exact z
 refine ⟨hf,⟨fun b o e n hb _=>st b o (inB b o (base.keep b o e n hb (by simp)) (old b o e hb)),fun b o e n hb _=>?_,base.free,fun b o e _=>?_,base.tups,base.frzs,base.tbls⟩,fun b o e n hb=>inB b o (base.keep b o e n hb (by simp)) (old b o e hb),fun b o e hb=>?_,fun b u e=>?_,?_⟩
 ·obtain ⟨sl,e1⟩:=base.slot b o e n hb (by simp)
  obtain ⟨sl',e2⟩:=hsm b _ (hm.keeps b _ e1) (cG I.funs hb e1)
  exact ⟨sl',e2⟩
 ·obtain ⟨o',e1⟩:=base.there b o e (by simp)
  by_cases hb:b∈dS X.outer
  ·obtain ⟨sl',e2⟩:=hsm b _ (hm.keeps b _ e1) (cG I.funs hb e1)
   exact ⟨_,e2⟩
  ·exact ⟨o',st b o' (inB b o' e1 (old b o e hb))⟩
 ·obtain ⟨o',e1⟩:=base.there b o e (by simp)
  exact ⟨o',inB b o' e1 (old b o e hb)⟩
 ·exact (I.hok b u e).stay (fun c v hc q=>inB c v q fun z=>by
   have n:=I.stkFree c z
   rcases hc with hc | hc
   ·rw [hc,e] at n; cases n
   ·rw [n] at hc; cases hc) (fun _ q=>q) fun _ _ q=>q
 ·cases q:H e with
  | none=>rfl
  | some u =>
    obtain ⟨ob,e1⟩:=(I.hok e u q).there
    rw [hm.new] at e1
    cases e1
theorem oJ {h'' B:Heap}{a:Addr}{cls a0:Value}(I:Inv X pins σ H s)(hex:X.ex=[])(F:Flies X.prog X.w X.stack H s.heap a cls H' s'.heap B a0)
 (hf:Heap.FlyingW B X.outer a cls a0 h'')(hsm:s'.heap.UpToSlots h''):Flies X.prog X.w X.outer X.H₀ X.s₀.heap a cls H' h'' B a0:=by
 have st:=hf.1
 have sub:∀ b,b∈dS X.outer->b∈dS X.stack:=fun b hb=>by
  rcases I.ok.stk with z | ⟨z,hfr⟩
  ·rw [z]; exact hb
  ·rw [z]; unfold dS; rw [List.filterMap_cons,hfr]; exact List.mem_cons_of_mem _ hb
 have old:∀ b o,X.s₀.heap.get? b=some o->b ∉ dS X.outer->b ∉ dS X.stack:=fun b o e n z=>by
  rcases List.mem_cons.mp (I.stkSub b z) with q | q
  ·exact absurd (Nat.lt_of_lt_of_le (Heap.lt_size e) I.ok.above) (by rw [q]; exact Nat.lt_irrefl _)
  ·exact n q
 have base:Un (dS X.outer) [] X.H₀ H X.s₀.heap s.heap:=by
  have z:=I.base
  rw [hex] at z
  exact z
 have kB:∀ b o,X.s₀.heap.get? b=some o->X.H₀ b=none->b ∉ dS X.outer->B.get? b=some o:=fun b o e n hb =>
  F.keep b o (base.keep b o e n hb (by simp)) (base.free b o e n (by simp)) (old b o e hb)
 have tB:∀ b o,X.s₀.heap.get? b=some o->b ∉ dS X.outer->∃ o',B.get? b=some o':=fun b o e hb=>by
  obtain ⟨o',e1⟩:=base.there b o e (by simp)
  exact F.there b o' e1 (old b o e hb)
 have sl2:∀ b o,s.heap.get? b=some o->H b=none->b∈dS X.outer->∃ sl,h''.get? b=some { o with slots:=sl }:=fun b o e n hb=>by
  obtain ⟨sl,e1⟩:=F.un.slot b o e n (sub b hb) (by simp)
  obtain ⟨sl',e2⟩:=hsm b _ e1 (fun vs q=>cG I.funs hb e vs q)
  exact ⟨sl',e2⟩
 refine ⟨hf,⟨fun b o e n hb _=>st b o (kB b o e n hb),fun b o e n hb _=>?_,fun b o e n _=>?_,fun b o e _=>?_,fun b xs e=>F.un.tups b xs (base.tups b xs e),fun b o xs e=>F.un.frzs b o xs (base.frzs b o xs e),fun b ps e=>?_⟩,kB,tB,F.hok,F.new⟩
 ·obtain ⟨sl,e1⟩:=base.slot b o e n hb (by simp)
  obtain ⟨sl',e2⟩:=sl2 b _ e1 (base.free b o e n (by simp)) hb
  exact ⟨sl',e2⟩
 ·obtain ⟨o',e1⟩:=base.there b o e (by simp)
  exact F.un.free b o' e1 (base.free b o e n (by simp)) (by simp)
 ·by_cases hb:b∈dS X.outer
  ·obtain ⟨o',e1⟩:=base.there b o e (by simp)
   have n:H b=none:=I.stkFree b (sub b hb)
   obtain ⟨sl,e2⟩:=sl2 b o' e1 n hb
   exact ⟨_,e2⟩
  ·obtain ⟨o',e1⟩:=tB b o e hb
   exact ⟨o',st b o' e1⟩
 ·obtain ⟨m1,e1⟩:=base.tbls b ps e
  obtain ⟨m2,e2⟩:=F.un.tbls b _ e1
  exact ⟨m1++m2,by rw [e2,Array.append_assoc]⟩
theorem kF {h'' B:Heap}{a:Addr}{cls a0:Value}{tk:Nat}(I:Inv X pins σ H s)(ho:s'.os=s.os)(hg:AllBare s'.gens)(F:Flies X.prog X.w X.stack H s.heap a cls H' s'.heap B a0)
 (hf:Heap.FlyingW B X.stack a cls a0 h'')(hsm:s'.heap.UpToSlots h''):Inv X pins σ H' { s' with heap:=h'',toks:=tk }:=by
 have st:=hf.1
 refine I.call' (s':={ s' with heap:=h'',toks:=tk }) (ch:=[]) ho ⟨fun b o e n hb _=>st b o (F.keep b o e n hb),fun b o e n hb _=>?_,F.un.free,fun b o e _=>?_,F.un.tups,F.un.frzs,F.un.tbls⟩ (F.hok.kept st) hg fun b z=>absurd z (by simp)
 ·obtain ⟨sl,e1⟩:=F.un.slot b o e n hb (by simp)
  obtain ⟨sl',e2⟩:=hsm b _ e1 (fun vs q=>cG I.stack hb e vs q)
  exact ⟨sl',e2⟩
 ·by_cases hb:b∈dS X.stack
  ·obtain ⟨sl,e1⟩:=F.un.slot b o e (I.stkFree b hb) hb (by simp)
   obtain ⟨sl',e2⟩:=hsm b _ e1 (fun vs q=>cG I.stack hb e vs q)
   exact ⟨_,e2⟩
  ·obtain ⟨o',e1⟩:=F.there b o e hb
   exact ⟨o',st b o' e1⟩
end
theorem xP {K:PySem.W.Frag}{h:Heap}{C:Addr}{bmB:List Value}{newId:String}(X:K.In h)(q:PySem.W.excIn K C bmB newId=true):
 ∃ bm N nm qn bs hd sn sub ab col dd k0 k1 k2 k3 k5 mN,h.get? C=some (excClassObj nm qn C N bs bm hd sn sub ab col dd k0 k1 k2 k3 k5 newId)∧h.Ns N mN∧mN "__init__"=none∧OwnTail h bmB bm:=by
 unfold PySem.W.excIn at q
 split at q
 ·rename_i dd cd sl ho
  split at q
  ·rename_i C' bm k0 k1 k2 k3 n k5 hm hs
   simp only [Bool.and_eq_true,beq_iff_eq,Bool.not_eq_true'] at q
   obtain ⟨⟨⟨⟨⟨rfl,rfl⟩,hdel⟩,ht⟩,hok⟩,hni⟩:=q
   obtain ⟨nm,bs,mro,ns,qn,hd,sn,sub,ab,col,del⟩:=cd
   dsimp only at hm hdel hok hni
   subst hm hdel
   have hsl:sl = #[k0,k1,k2,k3,some (.builtin n),k5]:=by
    obtain ⟨l⟩:=sl
    simp only at hs
    rw [hs]
   subst hsl
   exact ⟨bm,ns,nm,qn,bs,hd,sn,sub,ab,col,dd,k0,k1,k2,k3,k5,_,X _ _ ho,.of_isNs (PySem.W.isNs_of_in X hok),PySem.W.nsMap_none_of_in X hok hni,PySem.W.tail_of_in X ht⟩
  ·cases q
 ·cases q
noncomputable def wX (X:Cx)(E:St->XK):Prop:=∀ (pins:List (Addr × Obj))(σ:St)(H:Hp)(s:Shared)(h':Heap)(e:Addr)(cls:Value)(args:List Value),Inv X pins σ H s->Heap.MadeExcOf s.heap h' e cls args->E σ cls none H->X.xe (.ref e) { s with heap:=h' }
noncomputable def Ai (C:Addr)(E:St->XK)(t:TA):TS:=fun _ σ H=>t σ H fun vs H1=>vs.length≤sizeLine∧E σ (.ref C) none H1
section
variable {X:Cx}{E:St->XK}{x:Str}{C:Addr}{B newId initId:String}{bmB:List Value}{np cpos pos:Pos}{e:Expr}{es:List Expr}{t:TA}
theorem d8 (FB:ExcBaseFacts B newId initId bmB)(q:PySem.W.excIn X.K C bmB newId=true)(hc:X.calm=true)(hR:wX X E)(hg:Gl X x)(hm:X.mg x=some (.ref C))(ha:PA X (e :: es) t)
 (he:starEach (e :: es) X.env=(false,eval e X.env):: starEach es X.env:=by rfl)(hpl:(backTo cpos (starEach es X.env)).any (·.1)=false:=by rfl)(hd:(x == ("__debug__":Str))=false:=by decide):
 PS X (.Raise (some (.Call (.Name x np) (e :: es) [] cpos)) none pos) (Ai C E t):=by
 intro pins s σ H D I h
 obtain ⟨bm,N,nm,qn,bs,hdct,sn,sub,ab,col,dd,k0,k1,k2,k3,k5,mN,hC,hN,hni,T⟩:=xP I.ok.mod.kin q
 refine wpAny_Raise_call_subT (C:=C) (nm:=nm) (q:=qn) (N:=N) (bs:=bs) (bm:=bm) (hdct:=hdct) (sn:=sn) (sub:=sub) (ab:=ab) (col:=col) (dd:=dd) (k0:=k0) (k1:=k1) (k2:=k2) (k3:=k3) (k5:=k5)
  FB (mN:=mN) (T.hasType FB.hasBase) (I.ok.hd hc) (by rw [he]; show (false || (backTo cpos (starEach es X.env)).any (·.1))=false; rw [hpl]; rfl) hni (eV I hg hm ⟨rfl,?_⟩ hd)
 have z:=ha cpos pins s σ H _ I h
 rw [he] at z ⊢
 refine Calls.evalArgs_plain (wpAny_mono z (fun us s₂ ⟨vs,H2,I2,rv,hl,hE⟩=>?_) fun _ _ y=>y)
 exact ⟨rfl,by rw [← rv.length]; exact hl,I2.bk _ _ hC,hN.keeps I2.bk,T.keeps I2.bk,fun h' e' hm'=>hR pins σ H2 s₂ h' e' _ _ I2 hm' hE⟩
end
section
variable {P:Program}{w:World}{K:PySem.W.Frag}{mg:Str->Option Value}{base:Heap}{N:List Str}{qual:Str}{scope:Scope}{f:Addr}{cd:Value}{A:Around}{outer:List Env}{s:Shared}{H:Hp}{E:XK}
theorem db:wX (gr (aU P w) P w K mg base N qual scope f cd A outer s H E) fun _=>E:=by
 intro pins σ H1 s1 h' e cls args I hm hE
 have hst:(gr (aU P w) P w K mg base N qual scope f cd A outer s H E).stack=(gr (aU P w) P w K mg base N qual scope f cd A outer s H E).env :: outer:=rfl
 have hl:=I.stack
 refine wpAny_leaves_madeW (base:=PySem.W.hideAll s1.heap (dS (gr (aU P w) P w K mg base N qual scope f cd A outer s H E).stack)) (h:=s1.heap) I.ok.frames rfl (fun b o q=>PySem.W.of_hideAll _ q)
  (PySem.W.funFrames_hide hl fun env he a ha=>List.mem_filterMap.mpr ⟨env,he,ha⟩) hm fun h'' t x1 x2 x3 x4=>?_
 exact ⟨e,cls,.ref t,_,H1,rfl,I.os,I.bare,pZ (outer:=outer) I rfl rfl hm rfl x1 x4,hE⟩
theorem pP:dC (aU P w) (gr (aU P w) P w K mg base N qual scope f cd A outer s H E) E:=by
 intro pins σ H1 s1 e s' I hx
 obtain ⟨a,cls,a0,B,H',rfl,ho,hg,F,hE⟩:=hx
 refine wpAny_leaves_onW (L:=s.heap.objs.size) I.ok.frames rfl F.fly fun h'' x1 x2=>?_
 exact ⟨a,cls,a0,B,H',rfl,ho.trans I.os,hg,oJ I rfl F x1 x2,hE⟩
end
theorem ae {P:Program}{w:World}{X:Cx}:dC (aU P w) X fun _ _ _=>False:=by
 intro pins σ H1 s1 e s' I hx
 obtain ⟨a,cls,a0,B,H',_,_,_,_,hE⟩:=hx
 exact hE.elim
noncomputable def kr (a:Addr)(cls:Value):HO:=.ext fun h=>∃ o vs,h.get? a=some o∧o.cls=cls∧o.data = .fields vs
theorem yE {P:Program}{w:World}{H:Hp}{h:Heap}{a:Addr}{cls:Value}{o:Obj}{vs:Array Value}(e:h.get? a=some o)(hc:o.cls=cls)(hd:o.data = .fields vs):bg P w H h a (kr a cls):=
 ⟨⟨o,vs,e,hc,hd⟩,⟨o,e⟩,fun h1 h2 ⟨o,vs,e,hc,hd⟩ k=>⟨o,vs,k o e,hc,hd⟩⟩
theorem rS {P:Program}{w:World}{H:Hp}{h:Heap}{a:Addr}{cls:Value}(k:eA P w H h)(e:H a=some (kr a cls)):∃ o vs,h.get? a=some o∧o.cls=cls∧o.data = .fields vs:=(k a _ e).1
noncomputable def Bu (X:Cx)(pins:List (Addr × Obj))(E:St->XK):Value->Shared->Prop:=fun e s'=>∃ σ H s,Inv X pins σ H s∧aU X.prog X.w X.stack H s (E σ) e s'
noncomputable abbrev Cx.tr (X:Cx)(pins:List (Addr × Obj))(E:St->XK):Cx:={ X with pn:=X.pn++pins,xe:=Bu X pins E }
noncomputable abbrev Cx.hd (X:Cx)(a:Addr):Cx:={ X with A:=X.A.mark (some (.ref a)),calm:=false,xe:=fun _ _=>False }
section
variable {X:Cx}{pins pins':List (Addr × Obj)}{σ:St}{H:Hp}{s:Shared}{E:St->XK}{a:Addr}
theorem zu (I:Inv X pins σ H s):Inv (X.tr pins E) [] σ H s :=
 ⟨⟨I.ok.mod,I.ok.kind,I.ok.glob,I.ok.blt,I.ok.above,I.ok.inj,I.ok.has,I.ok.cab,I.ok.hd,I.ok.frames,I.ok.stk,I.ok.exf,I.ok.bs,I.ok.bsz,I.ok.noex,I.ok.exfs,I.ok.funs,I.ok.frf⟩,I.os,I.bare,I.base,I.loc,I.cell,I.free,I.freeC,fun p hp=>I.pin p (by
   have z:p∈(X.pn++pins)++[]:=hp
   rw [List.append_nil] at z
   exact z),I.hok,I.len⟩
theorem fK (I:Inv (X.tr pins E) pins' σ H s):Inv X pins σ H s :=
 ⟨⟨I.ok.mod,I.ok.kind,I.ok.glob,I.ok.blt,I.ok.above,I.ok.inj,I.ok.has,I.ok.cab,I.ok.hd,I.ok.frames,I.ok.stk,I.ok.exf,I.ok.bs,I.ok.bsz,I.ok.noex,I.ok.exfs,I.ok.funs,I.ok.frf⟩,I.os,I.bare,I.base,I.loc,I.cell,I.free,I.freeC,fun p hp=>I.pin p (List.mem_append_left _ hp),I.hok,I.len⟩
theorem vT (I:Inv X pins σ H s):Inv (X.hd a) pins σ H s :=
 ⟨⟨I.ok.mod,I.ok.kind,I.ok.glob,I.ok.blt,I.ok.above,I.ok.inj,I.ok.has,I.ok.cab,(fun z=>absurd (show false=true from z) (by decide)),I.ok.frames,I.ok.stk,I.ok.exf,I.ok.bs,I.ok.bsz,I.ok.noex,I.ok.exfs,I.ok.funs,I.ok.frf⟩,I.os,I.bare,I.base,I.loc,I.cell,I.free,I.freeC,I.pin,I.hok,I.len⟩
theorem gM (ok:X.Ok)(I:Inv (X.hd a) pins σ H s):Inv X pins σ H s :=
 ⟨ok,I.os,I.bare,I.base,I.loc,I.cell,I.free,I.freeC,I.pin,I.hok,I.len⟩
theorem ju {D:Ends}{f:Flow}{s':Shared}(h:SP (X.tr pins E) [] D f s'):SP X pins D f s':=by
 cases f with
 | next=>obtain ⟨σ',H',I,q⟩:=h; exact ⟨σ',H',fK I,q⟩
 | brk=>obtain ⟨σ',H',I,q⟩:=h; exact ⟨σ',H',fK I,q⟩
 | cont=>obtain ⟨σ',H',I,q⟩:=h; exact ⟨σ',H',fK I,q⟩
 | ret u=>obtain ⟨v,σ',H',I,r,q⟩:=h; exact ⟨v,σ',H',fK I,r,q⟩
theorem qt:∀ (pins':List (Addr × Obj))(σ:St)(H:Hp)(s:Shared)(e:Value)(s':Shared),Inv (X.tr pins E) pins' σ H s->aU X.prog X.w X.stack H s (E σ) e s'->(X.tr pins E).xe e s':=fun pins' σ H s e s' I hx=>⟨σ,H,s,fK I,hx⟩
noncomputable def B9 (K:PySem.W.Frag)(c:Value)(i:Nat)(ts:TS)(D:Ends):St->XK:=fun σ cls _ H'=>PySem.W.exmOne K cls c=some true∧∀ a,H' a=none →
 ts { nx:=fun σ' H2=>D.nx (σ'.set i none) H2,rt:=D.rt,bk:=fun σ' H2=>D.bk (σ'.set i none) H2,ct:=fun σ' H2=>D.ct (σ'.set i none) H2 } (σ.set i (some (.ref a))) (upd H' a (kr a cls))
noncomputable def Cl (K:PySem.W.Frag)(c:Value)(i:Nat)(tb:(St->XK)->TS)(ts:TS):TS:=fun D σ H=>tb (B9 K c i ts D) D σ H
theorem gc {M:Model}{E':Value->Shared->Prop}{A:Around}{i:Nat}{n:Str}{pos:Pos}{Q:Unit->Shared->Prop}(I:Inv X pins σ H s)(hN:X.N.Nodup)(hi:X.N[i]?=some n)(hl:X.env.scope.names.lookup n=some .local)
 (h:∀ s',Inv X pins (σ.set i none) H s'->Q () s'):wpAny M A (do bindName X.env n .none; unbindBehindTheSuite X.env n pos) Q E' s:=by
 obtain ⟨m,hn,hloc⟩:=id I.loc
 refine wpAny_nameGoes_keeps hl hn (by rw [I.ok.kind]; rfl) fun h' v hn' hs=>h _ ?_
 have nL:∀ b o,X.s₀.heap.get? b=some o->b≠X.env.locals:=fun b o e=>Nat.ne_of_lt (Nat.lt_of_lt_of_le (Heap.lt_size e) I.ok.above)
 refine ⟨I.ok,I.os,I.bare,⟨fun b o e n hb hx=>(hs.2 b (nL b o e)).trans (I.base.keep b o e n hb hx),fun b o e n hb hx=>?_,I.base.free,fun b o e hx=>?_,I.base.tups,I.base.frzs,I.base.tbls⟩,⟨_,hn',fun j y w' e1 e2 e3=>?_⟩,fun y c e=>?_,I.free,I.freeC,fun p hp=>?_,fun b u e=>?_,by simpa using I.len⟩
 ·obtain ⟨sl,e1⟩:=I.base.slot b o e n hb hx
  exact ⟨sl,(hs.2 b (nL b o e)).trans e1⟩
 ·obtain ⟨o',e1⟩:=I.base.there b o e hx
  exact ⟨o',(hs.2 b (nL b o e)).trans e1⟩
 ·have hj:j≠i:=fun z=>by
   subst z
   by_cases hlt:j < σ.length
   ·rw [List.getElem?_set_self hlt] at e2; cases e2
   ·rw [List.getElem?_eq_none (by simpa using hlt)] at e2; cases e2
  rw [List.getElem?_set_ne (Ne.symm hj)] at e2
  obtain ⟨u,r,q⟩:=hloc j y w' e1 e2 e3
  refine ⟨u,r,?_⟩
  rcases q with ⟨k,e⟩ | ⟨k,c,e,z⟩
  ·refine .inl ⟨k,?_⟩
   have hyn:y≠n:=fun e=>hj (li hN e1 (e ▸ hi))
   show (if y=n then v else m y)=some u
   rw [if_neg hyn]
   exact e
  ·exact .inr ⟨k,c,e,z.sameBut hs (I.cne y c e)⟩
 ·obtain ⟨w',z⟩:=I.cell y c e
  exact ⟨w',z.sameBut hs (I.cne y c e)⟩
 ·obtain ⟨e,n',ne,nf,d⟩:=I.pin p hp
  exact ⟨(hs.2 p.1 ne).trans e,n',ne,nf,d⟩
 ·refine (I.hok b u e).stay (fun c w' hc q=>(hs.2 c ?_).trans q) (fun _ q=>q) fun _ _ q=>q
  rintro rfl
  rcases hc with rfl | hc
  ·rw [I.free] at e; cases e
  ·rw [I.free] at hc; cases hc
theorem Aw {x n:Str}{C:Addr}{i:Nat}{np hpos pos:Pos}{body suite:List Stmt}{b₀:Stmt}{tb:(St->XK)->TS}{ts:TS}(hst:X.stack=X.env :: X.outer)(hfr:X.env.frame=some X.env.locals)(hN:X.N.Nodup)(hi:X.N[i]?=some n)
 (hl:X.env.scope.names.lookup n=some .local)(hg:Gl X x)(hm:X.mg x=some (.ref C))(hb:∀ pins E,ja (X.tr pins E) body (tb E))(hs:∀ a,ja (X.hd a) (b₀ :: suite) ts)(hd:(x == ("__debug__":Str))=false:=by decide):
 PS X (.Try body [.ExceptHandler (some (.Name x np)) (some n) (b₀ :: suite) hpos] [] [] pos) (Cl X.K (.ref C) i tb ts):=by
 intro pins s σ H D I h
 refine wpAny_Try_except (wpAny_mono (hb pins _ [] s σ H D (zu I) h) (fun f s1 q=>?_) fun e s1 q=>?_)
 ·cases f with
  | next=>exact wpAny_execs_nil (ju q)
  | ret v=>exact ju q
  | brk=>exact ju q
  | cont=>exact ju q
 ·obtain ⟨σ1,H1,s0,I1,a,cls,a0,B,H2,rfl,ho,hgn,F,hx,hw⟩:=q
  have frm:X.A.frames=some (X.env :: X.outer):=by rw [I.ok.frames,hst]
  have fl:=F.fly
  rw [hst] at fl
  refine wpAny_looks_onW frm hfr fl fun h4 held sm4=>wpAny_landsW held fun h5 fl5 sm5=>?_
  have fl5':Heap.FlyingW B X.stack a cls a0 h5:=by rw [hst]; exact fl5
  have I5:Inv X pins σ1 H2 { s1 with heap:=h5 }:=kF (tk:=s1.toks) I1 ho hgn F fl5' (sm4.trans sm5)
  obtain ⟨ob,hob,hobc⟩:=fl5.there
  have I5h:Inv (X.hd a) pins σ1 H2 { s1 with heap:=h5 }:=vT I5
  refine wpAny_handleBy_cons (codeAny_handlers_test (eV I5h hg hm ?_ hd)) (by intro q; cases q)
  have LT:PySem.W.Looks (model X.prog X.w) h5 (typeOf (.ref a)) cls:=hobc ▸ (PySem.W.Looks.ld hob).andThen .now
  refine (PySem.W.exm_one (M:=model X.prog X.w) I5.kIn LT hx) _ _ _ _ (fun _ _ e=>e) ?_
  refine codeAny_handlers_suite_as ?_
  refine lands_againW fl5 fun h6 fl6 sm6=>?_
  have fl6':Heap.FlyingW B X.stack a cls a0 h6:=by rw [hst]; exact fl6
  have I6:Inv X pins σ1 H2 { s1 with heap:=h6 }:=kF (tk:=s1.toks) I1 ho hgn F fl6' ((sm4.trans sm5).trans sm6)
  obtain ⟨oe,vs,hoe,hoec,hoed,_⟩:=fl6.first
  have I7:Inv X pins σ1 (upd H2 a (kr a cls)) { s1 with heap:=h6 }:=by
   have nB:X.s₀.heap.get? a=none∨True:=.inr trivial
   refine ⟨I6.ok,I6.os,I6.bare,?_,I6.loc,I6.cell,?_,?_,?_,dA I6.hok F.new (yE hoe hoec hoed),I6.len⟩
   ·refine ⟨I6.base.keep,I6.base.slot,fun b o e n hx'=>?_,I6.base.there,fun b xs e=>?_,fun b o u e=>?_,fun b ps e=>?_⟩
    ·have hne:b≠a:=fun z=>by
      subst z
      have e1:=I1.base.there b o e hx'
      obtain ⟨o1,e1⟩:=e1
      by_cases hbf:b∈dS X.stack
      ·have:=(fl6'.2.2.1.mem hbf)
       obtain ⟨_,o2,e2,d2⟩:=this
       rw [hoe] at e2
       cases e2
       exact d2 vs hoed
      ·obtain ⟨o2,e2⟩:=F.there b o1 e1 hbf
       rw [fl6'.2.1] at e2
       cases e2
     rw [al hne]
     exact I6.base.free b o e n hx'
    ·rw [al (ap (I6.base.tups b xs e) F.new)]; exact I6.base.tups b xs e
    ·rw [al (ap (I6.base.frzs b o u e) F.new)]; exact I6.base.frzs b o u e
    ·obtain ⟨m,q⟩:=I6.base.tbls b ps e
     exact ⟨m,by rw [al (ap q F.new)]; exact q⟩
   ·have hne:X.env.locals≠a:=fun z=>by
     obtain ⟨m,⟨o,es,ep,e,d,_⟩,_⟩:=I6.loc
     rw [z,hoe] at e
     cases e
     rw [hoed] at d
     cases d
    rw [al hne]
    exact I6.free
   ·intro y c e
    have hne:c≠a:=fun z=>by
     obtain ⟨v,o,e1,d⟩:=I6.cell y c e
     rw [z,hoe] at e1
     cases e1
     rw [hoed] at d
     cases d
    rw [al hne]
    exact I6.freeC y c e
   ·intro p hp
    obtain ⟨e,n',ne,nf,d⟩:=I6.pin p hp
    refine ⟨e,?_,ne,nf,d⟩
    have hne:p.1≠a:=fun z=>by
     obtain ⟨e1,n1,_,nf1,_⟩:=I1.pin p hp
     have nst:p.1 ∉ dS X.stack:=fun q=>by
      rcases List.mem_cons.mp (I1.stkSub _ q) with w | w
      ·exact ne w
      ·exact nf w
     obtain ⟨o2,e2⟩:=F.there p.1 _ e1 nst
     rw [z,fl6'.2.1] at e2
     cases e2
    rw [al hne]
    exact n'
  refine fP (M:=model X.prog X.w) I7 hN hi (.inl hl) (show aB (.ref a) (.ref a) from rfl) (fun s8 I8=>?_) (.inr hl)
  refine wpAny_mono (hs a pins s8 _ _ _ (vT I8) (hw a F.new)) (fun f s9 q=>?_) fun _ _ z=>False.elim z
  cases f with
  | next =>
    obtain ⟨σ9,H9,I9,q9⟩:=q
    exact gc (gM I.ok I9) hN hi hl fun s10 I10=>⟨_,_,I10,q9⟩
  | brk =>
    obtain ⟨σ9,H9,I9,q9⟩:=q
    exact gc (gM I.ok I9) hN hi hl fun s10 I10=>⟨_,_,I10,q9⟩
  | cont =>
    obtain ⟨σ9,H9,I9,q9⟩:=q
    exact gc (gM I.ok I9) hN hi hl fun s10 I10=>⟨_,_,I10,q9⟩
  | ret u =>
    obtain ⟨v,σ9,H9,I9,r9,q9⟩:=q
    exact gc (gM I.ok I9) hN hi hl fun s10 I10=>⟨v,_,_,I10,r9,q9⟩
end
open PySem.W
structure ExcK (K:Frag)(C:Addr):Prop where
 cls:(clsIn K C).isSome=true
 ga:findIn K (.ref C) "__getattribute__"=some (some (.builtin "BaseException.__getattribute__"))
 gx:findIn K (.ref C) "__getattr__"=some none
 ca:findIn K (.ref C) "__class__"=some (some (.builtin "object.__class__"))
 ob:mroIn K C (.type "object")=some true
 be:mroIn K C (.type "BaseException")=some true
section
variable {prog:Program}{w:World}{A:Around}{E:Value->Shared->Prop}{K:Frag}{x C:Addr}{ox:Obj}
theorem tY {M:Model}{nameV:Value}{Q:Unit->Shared->Prop}{s:Shared}(X:K.In s.heap)(k:ExcK K C)(e:s.heap.get? x=some ox)(hc:ox.cls = .ref C)(hq:Q () s):
 wpAny M A (checkBuiltinCall "BaseException.__getattribute__" ⟨[.ref x,nameV],[]⟩) Q E s:=by
 obtain ⟨hh,g,d,t,os⟩:=s
 have L0:Looks M hh (typeOf (.ref x)) (.ref C):=hc ▸ (Looks.ld e).andThen .now
 have L5:=looks_mroIn (M:=M) X k.be
 have hk:builtinKind "BaseException.__getattribute__"=some .slot:=by decide +kernel
 have hsplit:splitId "BaseException.__getattribute__"=some ("BaseException","__getattribute__"):=by decide +kernel
 have ha:=F.args_bexc_ga (.ref x) nameV
 simp only [checkBuiltinCall,hk,hsplit]
 unfold isInstance
 repeat (any_goals (first | assumption | lk | wp_step))
open Builtin Builtin.ObjectAttr Builtin.Getset_descriptor in
theorem lC {R:Result->Shared->Prop}{tp:Value}{s:Shared}(X:K.In s.heap)(k:ExcK K C)(e:s.heap.get? x=some ox)(hc:ox.cls = .ref C)(h:R (.ok (.ret (.ref C))) s):
 codeAny (model prog w) A (.call (.builtin "getset_descriptor.__get__") ⟨[.builtin "object.__class__",.ref x,tp],[]⟩) R s:=by
 obtain ⟨hh,g,dr,t,os⟩:=s
 have L0:Looks (model prog w) hh (typeOf (.ref x)) (.ref C):=hc ▸ (Looks.ld e).andThen .now
 have L1:=looks_mroIn (M:=model prog w) X k.ob
 refine codeAny_call_builtin KF.slot_gs.plain KF.entry_gs (KF.slot_gs.check _ _ _ _ _ _ _ _ KF.type_class (KF.args_gs _ _ _) ?_)
 unfold Builtin.«getset_descriptor.__get__» descrGet
 rw [dga_obj]
 refine wpAny_bind (wpAny_pure ?_)
 unfold descrGetter descrCheckInstance descrNameAndClass isInstance
 simp only [KF.owner_class]
 repeat lk
 refine ⟨Code.quiet_builtin _ (by decide +kernel),codeAny_builtin KF.entry_class ?_⟩
 unfold Builtin.«object.__class__» shownTypeOf
 repeat lk
 exact h
theorem jb {tk:Tok}{Q:PySem.Fin->Shared->Prop}{s:Shared}(X:K.In s.heap)(k:ExcK K C)(e:s.heap.get? x=some ox)(hc:ox.cls = .ref C)(hq:Q (.done (.ret (.ref C))) s):
 wpAny (model prog w) A (Builtin.«object.__getattribute__» ⟨[.ref x,.str "__class__" tk],[]⟩) Q E s:=by
 obtain ⟨hh,g,d,t,os⟩:=s
 have L0:Looks (model prog w) hh (typeOf (.ref x)) (.ref C):=hc ▸ (Looks.ld e).andThen .now
 have L3:=looks_findIn (M:=model prog w) X k.ca
 have f5:=F.typeOf_object_class
 have f6:=F.slot_gs_get.lookup
 have f7:=F.slot_gs_set.lookup
 repeat (any_goals (first | assumption | (with_reducible refine Looks.at (by assumption) ?_) | (with_reducible refine Looks.at L0 ?_) | wp_step))
 refine lC X k e hc ?_
 repeat (any_goals (first | assumption | wp_step))
theorem nt {tk:Tok}{fill expr:Bool}{Q:Value->Shared->Prop}{s:Shared}(X:K.In s.heap)(k:ExcK K C)(e:s.heap.get? x=some ox)(hc:ox.cls = .ref C)(hq:Q (.ref C) s):
 wpAny (model prog w) A (getAttrBy (.ref x) (.str "__class__" tk) fill expr) Q E s:=by
 obtain ⟨hh,g,d,t,os⟩:=s
 have L0:Looks (model prog w) hh (typeOf (.ref x)) (.ref C):=hc ▸ (Looks.ld e).andThen .now
 have L1:=looks_findIn (M:=model prog w) X k.ga
 have L2:=looks_findIn (M:=model prog w) X k.gx
 have f3:=F.attr_ValueError.ga.bind (.ref x)
 have hx0:(expr&&onTheHeap (Value.builtin "BaseException.__getattribute__"))=false:=by cases expr <;> rfl
 have hx2:(Value.builtin "BaseException.__getattribute__" == Value.builtin "object.__getattribute__")=false:=by decide +kernel
 have hx1:(onTheHeap (Value.ref C)&&Value.builtin "BaseException.__getattribute__" == Value.builtin "object.__getattribute__")=false:=by rw [hx2]; rfl
 repeat (any_goals (first | assumption | (with_reducible refine Looks.at (by assumption) ?_) | (with_reducible refine Looks.at L0 ?_) | wp_step))
 refine codeAny_call_builtin F.attr_ValueError.ga.plain F.entry_bexc_ga (tY X k e hc (jb X k e hc ?_))
 repeat (any_goals (first | assumption | wp_step))
theorem tL {Q:Option Value->Shared->Prop}{s:Shared}(X:K.In s.heap)(k:ExcK K C)(e:s.heap.get? x=some ox)(hc:ox.cls = .ref C)(hq:Q (some (.ref C)) { s with toks:=s.toks + 1 }):
 wpAny (model prog w) A (getAttr? (.ref x) "__class__") Q E s:=by
 unfold getAttr? getAttrBy?
 refine wpAny_bind (wpAny_mkText (wpAny_bind (wpAny_attempt (nt (s:={ s with toks:=s.toks + 1 }) X k e hc ?_))))
 exact wpAny_pure hq
theorem va (k:ExcK K C):KitX K (.ref x) (.ref C) (fun h=>∃ o,h.get? x=some o∧o.cls = .ref C) where
 ty:=fun _ _ _ ⟨o,e,hc⟩=>hc ▸ (Looks.ld e).andThen .now
 it:=fun _ _ X _=>by
  have hcD:=k.cls
  unfold clsIn at hcD
  split at hcD
  ·rename_i c' d' cd' sl' ho
   intro A' Q' E' s' kk q
   unfold isType loadHead
   exact wpAny_bind (wpAny_loadPart (kk _ _ (X _ _ ho)) (wpAny_pure q))
  ·cases hcD
 ne:=fun h tp dd its n sl X htp=>by
  have hcD:=k.cls
  refine Bool.eq_false_iff.mpr fun q=>?_
  have e:C=tp:=Value.ref.inj (beq_iff_eq.mp q)
  subst e
  unfold clsIn at hcD
  split at hcD
  ·rename_i c' d' cd' sl' ho
   have z:=(X _ _ ho).symm.trans htp
   cases z
  ·cases hcD
 ca:=fun X ⟨o,e,hc⟩ q=>tL X k e hc q
end
section
variable {X:Cx}{pins:List (Addr × Obj)}{σ:St}{H:Hp}{s:Shared}
inductive TyX (K:Frag)(H:Hp):V->Value->Prop where
 | of {x:V}{t:Value}(h:TyOf K H x t):TyX K H x t
 | exc {a C:Addr}(e:H a=some (kr a (.ref C)))(k:ExcK K C):TyX K H (.ref a) (.ref C)
theorem At {A:Around}{E:Value->Shared->Prop}{Q:Value->Shared->Prop}{x:V}{u t c:Value}{b:Bool}(I:Inv X pins σ H s)(rx:aB x u)(ty:TyX X.K H x t)(e:kitOne X.K t c=some b)(h:∀ tk,Q (.bool b) { s with toks:=tk }):
 wpAny (model X.prog X.w) A (call (.builtin "isinstance") [u,c]) Q E s:=by
 cases ty with
 | of z=>exact tJ I rx z e h
 | exc ea k =>
   rename_i a C
   cases (show u=Value.ref a from rx)
   obtain ⟨o,vs,h1,h2,_⟩:=rS I.hok ea
   exact kia_one (va k) I.kIn ⟨o,h1,h2⟩ e (fun z=>nomatch z) h
noncomputable def Co:V->Value->Prop
 | .ty n,c=>c = .type n
 | .ref a,c=>c = .ref a
 | _,_=>False
theorem aN:cR X (.builtin "isinstance") (fun xs H Q=>∃ x c t cv b,xs=[x,c]∧Co c cv∧TyX X.K H x t∧kitOne X.K t cv=some b∧Q (.bl b) H):=by
 intro pins s σ H xs us Q I r h
 obtain ⟨x,c,t,cv,b,rfl,hc,ty,e,q⟩:=h
 cases r with
 | cons r1 r2 =>
   cases r2 with
   | cons r2 r3 =>
     cases r3
     rename_i u uc
     have huc:uc=cv:=by
      cases c with
      | ty n=>cases (show uc=Value.type n from r2); exact hc.symm
      | ref a=>cases (show uc=Value.ref a from r2); exact hc.symm
      | _=>exact hc.elim
     subst huc
     exact At I r1 ty e fun tk=>⟨.bl b,H,I.tok tk,rfl,q⟩
end
end L2
namespace L2
open PySem PySem.Spec PyProof.Rows
section
variable {P:Program}{w:World}{K:PySem.W.Frag}{mg:Str->Option Value}{base:Heap}
theorem Fun.okN {x qual:Str}{st:Stmt}{f:Addr}{fd:FuncData}{N ps:List Str}{k:Nat}{sp:Sp}(F:Fun K x qual st f fd)(S:FnScope N ps (aj st))(len:∀ vs H Q E,sp vs H Q E->vs.length=ps.length)
 (hbody:∀ (cdv:Value)(A:Around)(outer:List Env)(s:Shared)(H:Hp)(vs:List V)(Q:VK)(E:XK),Room k (A.deeper (envOfC qual (aj st) s.heap.objs.size f cdv))->sp vs H Q E →
  ∃ t,ja (gr (aU P w) P w K mg base N qual (aj st) f cdv A outer s H E).nox (bv st) t∧t { nx:=fun _ H'=>Q .non H',rt:=Q } (fH N vs) H):FnOk P w K mg base (aU P w) (k + 1) f fd ps sp:=by
 obtain ⟨oc,od,kV,doc,pm,an,cdv,ct,osl,rfl,lk,hcd⟩:=F.ex
 refine rV lk hcd S len fun A outer s H vs Q E hr hsp=>?_
 obtain ⟨t,h,q⟩:=hbody cdv A outer s H vs Q E hr hsp
 exact ⟨t,h.nox,q⟩
theorem Fun.okE {x qual:Str}{st:Stmt}{f:Addr}{fd:FuncData}{N ps:List Str}{k:Nat}{sp:Sp}(F:Fun K x qual st f fd)(S:FnScope N ps (aj st))(len:∀ vs H Q E,sp vs H Q E->vs.length=ps.length)
 (hbody:∀ (cdv:Value)(A:Around)(outer:List Env)(s:Shared)(H:Hp)(vs:List V)(Q:VK)(E:XK),Room k (A.deeper (envOfC qual (aj st) s.heap.objs.size f cdv))->sp vs H Q E →
  ∃ t,ja (gr (aU P w) P w K mg base N qual (aj st) f cdv A outer s H E) (bv st) t∧t { nx:=fun _ H'=>Q .non H',rt:=Q } (fH N vs) H):FnOk P w K mg base (aU P w) (k + 1) f fd ps sp:=by
 obtain ⟨oc,od,kV,doc,pm,an,cdv,ct,osl,rfl,lk,hcd⟩:=F.ex
 exact rV lk hcd S len fun A outer s H vs Q E hr hsp=>hbody cdv A outer s H vs Q E hr hsp
end
open PySem.W
section
variable {X:Cx}{pins:List (Addr × Obj)}{σ:St}{H:Hp}{s:Shared}
theorem AC {x:V}{u t:Value}(I:Inv X pins σ H s)(rx:aB x u)(ty:TyX X.K H x t):Looks (model X.prog X.w) s.heap (typeOf u) t:=by
 cases ty with
 | of ty =>
   cases ty with
   | non=>cases (show u=Value.none from rx); exact kitx_none.ty _ _ I.kIn True.intro
   | bl y=>cases (show u=Value.bool y from rx); exact kitx_bool.ty _ _ I.kIn True.intro
   | int i=>obtain ⟨t,q⟩:=(show ∃ t,u=Value.int i t from rx); cases q; exact kitx_int.ty _ _ I.kIn True.intro
   | str y=>obtain ⟨t,q⟩:=(show ∃ t,u=Value.str y t from rx); cases q; exact kitx_str.ty _ _ I.kIn True.intro
   | flt y=>obtain ⟨t,q⟩:=(show ∃ t,u=Value.float y t from rx); cases q; exact kitx_float.ty _ _ I.kIn True.intro
   | @lst a xs ea =>
     cases (show u=Value.ref a from rx)
     obtain ⟨_,_,n,_,h1⟩:=(show bg X.prog X.w H s.heap a (.lst xs) from I.hok a _ ea)
     exact kitx_list.ty _ _ I.kIn ⟨_,h1,rfl⟩
   | @frz a ob xs ea =>
     cases (show u=Value.ref a from rx)
     obtain ⟨_,_,_,n,_,h1⟩:=(show bg X.prog X.w H s.heap a (.frz ob (.lst xs)) from I.hok a _ ea)
     exact kitx_list.ty _ _ I.kIn ⟨_,h1,rfl⟩
   | @tup a xs ea =>
     cases (show u=Value.ref a from rx)
     obtain ⟨_,_,_,p⟩:=(show bg X.prog X.w H s.heap a (.tup xs) from I.hok a _ ea)
     obtain ⟨o,h1,h2,_⟩:=p
     exact kitx_tuple.ty _ _ I.kIn ⟨o,h1,h2⟩
   | @dK a kvs ea =>
     cases (show u=Value.ref a from rx)
     obtain ⟨_,_,vs,_,p⟩:=(show bg X.prog X.w H s.heap a (.dK kvs) from I.hok a _ ea)
     obtain ⟨o,es,ep,h1,h2,_⟩:=p
     exact kitx_dict.ty _ _ I.kIn ⟨o,h1,h2.1⟩
   | @dT a kvs ea =>
     cases (show u=Value.ref a from rx)
     obtain ⟨_,_,xs,_,o,es,ep,h1,h2,_⟩:=(show bg X.prog X.w H s.heap a (.dT kvs) from I.hok a _ ea)
     exact kitx_dict.ty _ _ I.kIn ⟨o,h1,h2.1⟩
   | @ins a C dx fs ea cl ha hn htk hm =>
     cases (show u=Value.ref a from rx)
     obtain ⟨mA,O,_⟩:=fX I.hok ea
     obtain ⟨od,J,_⟩:=O.look
     exact J.type
 | exc ea k =>
   rename_i a C
   cases (show u=Value.ref a from rx)
   obtain ⟨o,vs,h1,h2,_⟩:=rS I.hok ea
   exact h2 ▸ (Looks.ld h1).andThen .now
end
section
variable {X:Cx}{CX:CXT}{k:Nat}{f C:Addr}{fd:FuncData}{ps:List Str}{sp:Sp}{E:XK}
noncomputable def zy (K:Frag)(C:Addr)(sp:Sp)(E:XK)(neg:Bool):R2:=fun x y H Q=>∃ p dx fs t,x = .ref p∧H p=some (.ins C dx fs)∧TyX K H y t∧notFirst K C t=true∧sp [x,y] H (fun v H'=>∃ b,v = .bl b∧Q (.bl (b != neg)) H') E
theorem yH {pins:List (Addr × Obj)}{σ:St}{H:Hp}{s:Shared}{Q:VK}{us:List Value}{vs:List V}(F:FnOk X.prog X.w X.K X.mg X.base CX k f fd ps sp)(hr:Room (k + 1) X.A)(hb:ax X.K fd ps [])(hx:dC CX X E)
 (I:Inv X pins σ H s)(r:aJ vs us)(h:sp vs H Q E):wpAny (model X.prog X.w) X.A.in1 (call (.ref f) us) (EP X pins σ Q) X.xe s:=by
 have hl:us.length=ps.length:=by rw [← r.length]; exact F.len _ _ _ _ h
 have hb':=hb s us I.kIn (by rw [List.append_nil]; exact hl)
 rw [List.append_nil] at hb'
 refine wpAny_call (codeAny_mono (F.run X.A.in1 X.stack s H ⟨us,[]⟩ us vs Q E hr.in1 I.env0.in1 hb' r h) fun r s' hq=>?_)
 cases r with
 | error e=>exact hx pins σ H s e s' I hq
 | ok fl =>
   cases fl with
   | ret u=>exact I.after hq
   | next=>exact False.elim hq
   | brk=>exact False.elim hq
   | cont=>exact False.elim hq
theorem u5 {M:Model}{A:Around}{E':Value->Shared->Prop}{K:Frag}{x:Addr}{b:Value}{ox:Obj}{od:Option Obj}{Q:Unit->Shared->Prop}{s:Shared}(X:K.In s.heap)(J:InstAt s.heap x ox C od)(hm:mroIn K C (.type "object")=some true)(hq:Q () s):
 wpAny M A (checkBuiltinCall "object.__ne__" ⟨[.ref x,b],[]⟩) Q E' s:=by
 obtain ⟨hh,g,d,t,os⟩:=s
 have L0:=J.type (M:=M)
 have L5:=looks_mroIn (M:=M) X hm
 have hk:=F.cmpKind_ne
 have hsplit:=F.cmpSplit_ne
 have ha:=F.cmpArgs_ne (.ref x) b
 simp only [checkBuiltinCall,hk,hsplit]
 unfold isInstance
 repeat (any_goals (first | assumption | lk | wp_step))
theorem wy (hs:findIn X.K (.ref C) "__eq__"=some (some (.ref f)))(hf:isFn X.K (.ref f)=true)(hns:findIn X.K (.ref C) "__ne__"=some (some (.builtin "object.__ne__")))(hm:mroIn X.K C (.type "object")=some true)
 (F:FnOk X.prog X.w X.K X.mg X.base CX k f fd ps sp)(hr:Room (k + 1) X.A)(hb:ax X.K fd ps [])(hx:dC CX X E):
 eZ X (compareOp .NotEq) (zy X.K C sp E true):=by
 intro pins s σ H x y v u Q I rx ry h
 obtain ⟨p,dx,fs,t,rfl,ep,ty,hn,q⟩:=h
 cases (show v=Value.ref p from rx)
 obtain ⟨mA,O,_⟩:=fX I.hok ep
 obtain ⟨od,J,_⟩:=O.look
 have hu:X.A.units + 64 < cLine:=hr.units
 have call1:wpAny (model X.prog X.w) X.A.in1 (call (.ref f) [.ref p,u]) (fun r s'=>∃ b,r = .bool b∧EP X pins σ Q (.bool (!b)) s') X.xe s:=by
  refine wpAny_mono (yH F hr hb hx I (us:=[.ref p,u]) (vs:=[.ref p,y]) (.cons rx (.cons ry .nil)) q) (fun r s1 ⟨z,H1,I1,rz,b,eb,q1⟩=>?_) fun _ _ e=>e
  subst eb
  cases (show r=Value.bool b from rz)
  exact ⟨b,rfl,.bl (!b),H1,I1,rfl,by simpa using q1⟩
 have entry:wpAny (model X.prog X.w) X.A.in1 (Builtin.«object.__ne__» ⟨[.ref p,u],[]⟩) (fun fin s'=>∃ b,fin = .done (.ret (.bool (!b)))∧EP X pins σ Q (.bool (!b)) s') X.xe s:=by
  unfold Builtin.«object.__ne__»
  refine wpAny_bind (m:=slotArgs "__ne__" 1 _) (wpAny_pure ?_)
  refine wpAny_bind (wpAny_cRoomFor (by show X.A.units + 1 < cLine; omega) ?_)
  refine wpAny_bind (ifBound_K I.kIn J hs hf (wpAny_mono call1 (fun r s1 z=>?_) fun _ _ e=>e))
  obtain ⟨b,rfl,q1⟩:=z
  exact wpAny_bind (wpAny_truthy_bool (wpAny_pure ⟨b,rfl,q1⟩))
 have S:=PySem.F.cmp_object.ne
 have inner:wpAny (model X.prog X.w) X.A (callSpecialIfBound? (.ref p) "__ne__" [u]) (fun r s'=>∃ b,r=some (.bool (!b))∧EP X pins σ Q (.bool (!b)) s') X.xe s:=by
  simp only [callSpecialIfBound?,bindSpecialIfBound?]
  refine wpAny_holding (wpAny_bind (wpAny_bind (wpAny_bind (J.type.here ((looks_findIn I.kIn hns).here ?_)))))
  simp only [S.bind]
  refine wpAny_bind (wpAny_askSetting (wpAny_ite ?_))
  have fin:wpAny (model X.prog X.w) X.A (call (.builtin "object.__ne__") ([.ref p]++[u]) >>= fun v=>pure (some v)) (fun r s'=>∃ b,r=some (.bool (!b))∧EP X pins σ Q (.bool (!b)) s') X.xe s:=by
   refine wpAny_bind (wpAny_call (codeAny_call_builtin S.plain PySem.F.cmpEntry_ne (u5 I.kIn J hm (wpAny_mono entry (fun fin s1 z=>?_) fun _ _ e=>e))))
   obtain ⟨b,rfl,q1⟩:=z
   exact wpAny_pure ⟨b,rfl,q1⟩
  split
  ·exact wpAny_bind (wpAny_pure (wpAny_pure fin))
  ·exact wpAny_tryCatch (wpAny_bind (wpAny_pure (wpAny_pure fin)))
 have one:wpAny (model X.prog X.w) X.A (tryCompare (.ref p) "__ne__" u) (fun r s'=>∃ v,r=some v∧EP X pins σ Q v s') X.xe s:=by
  unfold tryCompare
  refine wpAny_bind (wpAny_mono inner (fun r s1 z=>?_) fun _ _ e=>e)
  obtain ⟨b,rfl,q1⟩:=z
  exact wpAny_pure ⟨_,rfl,q1⟩
 refine cmp_ofNotEq ?_
 unfold richCompare
 simp only [oneThing_ref]
 refine wpAny_holding (wpAny_bind (wpAny_cRoomFor (by omega) ?_))
 rw [cmpInfo_NotEq]
 dsimp only
 refine wpAny_bind (J.type.here (wpAny_bind ((AC I ry ty).here ?_)))
 split
 ·rename_i qq
  have e:subIn X.K t (.ref C)=some false:=by
   rcases Bool.or_eq_true_iff.mp hn with e | e
   ·rw [beq_iff_eq.mp e] at qq; simp at qq
   ·exact beq_iff_eq.mp e
  refine wpAny_bind ((looks_subIn I.kIn e).here ?_)
  simp only [Bool.false_eq_true,if_false]
  refine wpAny_bind (wpAny_mono one (fun r s' z=>?_) fun _ _ e=>e)
  obtain ⟨v,rfl,hq⟩:=z
  exact wpAny_pure hq
 ·refine wpAny_bind (wpAny_pure ?_)
  simp only [Bool.false_eq_true,if_false]
  refine wpAny_bind (wpAny_mono one (fun r s' z=>?_) fun _ _ e=>e)
  obtain ⟨v,rfl,hq⟩:=z
  exact wpAny_pure hq
end
end L2
namespace L2
open PySem PySem.Spec PyProof.Rows
section
variable {X:Cx}
noncomputable def AB (K:PySem.W.Frag):R2:=fun x y H Q=>∃ p q xs,x = .ref p∧y = .ref q∧aO K H p xs∧aO K H q []∧Q (.bl (decide (xs=[]))) H
theorem oC {k:Nat}(hr:Room k X.A):eZ X (compareOp .Eq) (AB X.K):=by
 intro pins s σ H x y v u Q I rx ry h
 obtain ⟨p,q,xs,rfl,rfl,h1,h2,w⟩:=h
 cases (show v=Value.ref p from rx)
 cases (show u=Value.ref q from ry)
 obtain ⟨its,r1,p1,_⟩:=I.list h1
 obtain ⟨its2,r2,p2,_⟩:=I.list h2
 cases r2
 by_cases e:xs=[]
 ·subst e
  cases r1
  refine SeqAt.eq_listAt (e:=fun _=>true) p1.isList p2.isList rfl hr.units0 (fun j a b=>absurd a (by simp)) ⟨.bl true,H,I,?_,by simpa using w⟩
  rfl
 ·refine SeqAt.eq_list_lengthsAt p1.isList p2.isList ?_ hr.units0 ⟨.bl false,H,I,rfl,by simpa [e] using w⟩
  have hl:=r1.length
  have hx:xs.length≠0:=fun z=>e (List.eq_nil_of_length_eq_zero z)
  have:its.toArray.size≠0:=by rw [List.size_toArray]; omega
  simpa using this
noncomputable def zN (K:PySem.W.Frag):V->List V->Hp->VK->Prop:=fun x vs H Q=>∃ l xs y,x = .ref l∧vs=[y]∧aO K H l xs∧(∀ z∈xs,eJ z=true)∧eJ y=true∧Q (.int (xs.countP fun z=>uV z y:Nat)) H
theorem oE {xs:List V}{us:List Value}(r:aJ xs us):∀ u∈us,∃ z∈xs,aB z u:=by
 induction r with
 | nil=>intro u h; cases h
 | cons r _ ih =>
   intro u h
   rcases List.mem_cons.mp h with rfl | h
   ·exact ⟨_,List.mem_cons_self,r⟩
   ·obtain ⟨z,hz,q⟩:=ih u h
    exact ⟨z,List.mem_cons_of_mem _ hz,q⟩
theorem pQ {y:V}{xs:List V}{us:List Value}(r:aJ xs us)(hf:∀ z∈xs,eJ z=true):us.countP (uW y)=xs.countP fun z=>uV z y:=by
 induction r with
 | nil=>rfl
 | cons r _ ih =>
   rw [List.countP_cons,List.countP_cons,ih fun z hz=>hf z (List.mem_cons_of_mem _ hz),gB r (hf _ List.mem_cons_self)]
theorem wd:BG X "list.count" (zN X.K):=by
 intro pins s σ H x vs v us Q I rx rv h
 obtain ⟨l,xs,y,rfl,rfl,hS,hf,fy,q⟩:=h
 cases (show v=Value.ref l from rx)
 obtain ⟨u,rfl,ru⟩:=rv.one
 obtain ⟨its,r,⟨⟨oc,od,oda,osl⟩,n,e,hc,hd,hda⟩,_⟩:=I.list hS
 simp only at hc hd hda
 subst hc hd hda
 refine call_meets F.slot_list_count ⟨_,e,rfl⟩ F.entry_list_count (F.args_list_count_2 _ _) (SeqAt.list_countAt l its.toArray n none osl u (uW y)) ⟨e,fun z hz=>?_,?_⟩
 ·obtain ⟨zv,hzv,rz⟩:=oE r z (by simpa using hz)
  rw [gB rz (hf zv hzv)]
  exact pY rz ru (hf zv hzv) fy
 ·refine ⟨.int _,H,I.tok _,⟨s.toks,rfl⟩,?_⟩
  rw [show its.toArray.toList=its from rfl,pQ r hf]
  exact q
noncomputable def zY (K:PySem.W.Frag):V->List V->Hp->VK->Prop:=fun x vs H Q=>∃ l xs y j,x = .ref l∧vs=[y]∧aO K H l xs∧(∀ z∈xs,eJ z=true)∧eJ y=true∧(∃ z,xs[j]?=some z∧uV z y=true)∧(∀ i z,i < j->xs[i]?=some z->uV z y=false)∧j < 1000∧Q (.int (j:Nat)) H
theorem vC:BG X "list.index" (zY X.K):=by
 intro pins s σ H x vs v us Q I rx rv h
 obtain ⟨l,xs,y,j,rfl,rfl,hS,hf,fy,⟨z0,hz0,e0⟩,hno,hj,q⟩:=h
 cases (show v=Value.ref l from rx)
 obtain ⟨u,rfl,ru⟩:=rv.one
 obtain ⟨its,r,⟨⟨oc,od,oda,osl⟩,n,e,hc,hd,hda⟩,_⟩:=I.list hS
 simp only at hc hd hda
 subst hc hd hda
 obtain ⟨w0,hw0,r0⟩:=r.get hz0
 have hlt:j < its.toArray.size:=by rw [List.size_toArray]; exact (List.getElem?_eq_some_iff.mp hw0).1
 have at0:its.toArray[j]=w0:=by
  have z:=(List.getElem?_eq_some_iff.mp hw0).2
  simpa using z
 refine call_meets F.slot_list_index ⟨_,e,rfl⟩ F.entry_list_index (F.args_list_index_2 _ _) (SeqAt.list_indexAt l its.toArray n none osl u (uW y) j hlt (by omega) (by rw [at0,gB r0 (hf _ (List.mem_of_getElem? hz0))]; exact e0) (fun m hm hmj=>?_)) ⟨e,fun z hz=>?_,⟨.int _,H,I.tok _,⟨s.toks,rfl⟩,q⟩⟩
 ·have hm':m < xs.length:=by rw [r.length]; simpa using hm
  obtain ⟨w1,hw1,r1⟩:=r.get (show xs[m]?=some xs[m] by simp [hm'])
  have at1:its.toArray[m]=w1:=by
   have z:=(List.getElem?_eq_some_iff.mp hw1).2
   simpa using z
  rw [at1,gB r1 (hf _ (List.getElem_mem hm'))]
  exact hno m _ hmj (by simp [hm'])
 ·obtain ⟨zv,hzv,rz⟩:=oE r z (by simpa using hz)
  rw [gB rz (hf zv hzv)]
  exact pY rz ru (hf zv hzv) fy
end
open PySem.W
noncomputable def cZ (c:Addr)(o:Obj):HO:=.ext fun h=>h.get? c=some o
theorem jh {P:Program}{w:World}{H:Hp}{h:Heap}{c:Addr}{o:Obj}(e:h.get? c=some o):bg P w H h c (cZ c o):=⟨e,⟨o,e⟩,fun h1 h2 e k=>k o e⟩
noncomputable def de (cs:List (Addr × Obj))(H:Hp):Hp:=fun b=>match cs.lookup b with | some v=>some (cZ b v) | none=>H b
noncomputable def dU (cs:List (Addr × Obj))(H:Hp):Hp:=fun b=>match cs.lookup b with | some _=>none | none=>H b
theorem jn {cs:List (Addr × Obj)}{H:Hp}{b:Addr}{v:Obj}(e:cs.lookup b=some v):de cs H b=some (cZ b v):=by unfold de; rw [e]
theorem bo {cs:List (Addr × Obj)}{H:Hp}{b:Addr}(e:cs.lookup b=none):de cs H b=H b:=by unfold de; rw [e]
theorem dW {cs:List (Addr × Obj)}{H:Hp}{b:Addr}{v:Obj}(e:cs.lookup b=some v):dU cs H b=none:=by unfold dU; rw [e]
theorem bX {cs:List (Addr × Obj)}{H:Hp}{b:Addr}(e:cs.lookup b=none):dU cs H b=H b:=by unfold dU; rw [e]
noncomputable def d3 (cs:List (Addr × Obj))(H:Hp):Prop:=∀ c v,cs.lookup c=some v->H c=some (cZ c v)
noncomputable def qD (cs:List (Addr × Obj))(H:Hp)(h:Heap):Prop:=∀ c v,cs.lookup c=some v->H c=none∧h.get? c=some v
section
variable {P:Program}{w:World}{cs:List (Addr × Obj)}{H H':Hp}{h h':Heap}
theorem jF (k:eA P w H h)(c:qD cs H h):eA P w (de cs H) h:=fun b o e=>by
 cases q:cs.lookup b with
 | some v =>
   rw [jn q] at e
   cases e
   exact jh (c b v q).2
 | none =>
   rw [bo q] at e
   have keep:∀ (d:Addr)(x:HO),H d=some x->de cs H d=some x:=fun d x ed=>by
    cases q2:cs.lookup d with
    | some v=>rw [(c d v q2).1] at ed; cases ed
    | none=>rw [bo q2]; exact ed
   exact (k b o e).stay (fun d u _ z=>z) (fun d z=>keep d _ z) fun d xs z=>keep d _ z
theorem pj (k:eA P w H h)(c:d3 cs H):eA P w (dU cs H) h:=fun b o e=>by
 cases q:cs.lookup b with
 | some v=>rw [dW q] at e; cases e
 | none =>
   rw [bX q] at e
   have keep:∀ (d:Addr)(x:HO),(∀ v,x≠cZ d v)->H d=some x->dU cs H d=some x:=fun d x nx ed=>by
    cases q2:cs.lookup d with
    | some v=>rw [c d v q2] at ed; exact absurd (Option.some.inj ed).symm (nx v)
    | none=>rw [bX q2]; exact ed
   exact (k b o e).stay (fun d u _ z=>z) (fun d z=>keep d _ (fun v q=>by cases q) z) fun d xs z=>keep d _ (fun v q=>by cases q) z
theorem sh {fs:List Addr}(u:Un fs [] (dU cs H) H' h h')(c:d3 cs H)(hc:∀ a v,cs.lookup a=some v->H' a=none):Un fs [] H (de cs H') h h':=by
 have nl:∀ b,H b=none->cs.lookup b=none:=fun b n=>by
  cases q:cs.lookup b with
  | none=>rfl
  | some v=>rw [c b v q] at n; cases n
 have nl2:∀ b o,H b=some o->(∀ v,o≠cZ b v)->cs.lookup b=none:=fun b o e nx=>by
  cases q:cs.lookup b with
  | none=>rfl
  | some v=>rw [c b v q] at e; exact absurd (Option.some.inj e).symm (nx v)
 refine ⟨fun b o e n hb hx=>u.keep b o e (by rw [bX (nl b n)]; exact n) hb hx,fun b o e n hb hx=>u.slot b o e (by rw [bX (nl b n)]; exact n) hb hx,fun b o e n hx=>?_,u.there,fun b xs e=>?_,fun b o x e=>?_,fun b ps e=>?_⟩
 ·rw [bo (nl b n)]; exact u.free b o e (by rw [bX (nl b n)]; exact n) hx
 ·have q:=nl2 b _ e fun v z=>by cases z
  rw [bo q]; exact u.tups b xs (by rw [bX q]; exact e)
 ·have q:=nl2 b _ e fun v z=>by cases z
  rw [bo q]; exact u.frzs b o x (by rw [bX q]; exact e)
 ·have q:=nl2 b _ e fun v z=>by cases z
  obtain ⟨m,z⟩:=u.tbls b ps (by rw [bX q]; exact e)
  exact ⟨m,by rw [bo q]; exact z⟩
theorem xZ {fs:List Addr}(u:Un fs [] (de cs H) H' h h')(c:qD cs H h)(hc:d3 cs H')(hk:eA P w H' h')(nf:∀ a v,cs.lookup a=some v->a ∉ fs):Un fs [] H (dU cs H') h h':=by
 refine ⟨fun b o e n hb hx=>?_,fun b o e n hb hx=>?_,fun b o e n hx=>?_,u.there,fun b xs e=>?_,fun b o x e=>?_,fun b ps e=>?_⟩
 ·cases q:cs.lookup b with
  | some v =>
    have e1:=(c b v q).2
    rw [e] at e1
    cases e1
    exact (hk b _ (hc b _ q)).1
  | none=>exact u.keep b o e (by rw [bo q]; exact n) hb hx
 ·cases q:cs.lookup b with
  | some v=>exact absurd hb (nf b v q)
  | none=>exact u.slot b o e (by rw [bo q]; exact n) hb hx
 ·cases q:cs.lookup b with
  | some v=>exact dW q
  | none=>rw [bX q]; exact u.free b o e (by rw [bo q]; exact n) hx
 ·have q:cs.lookup b=none:=by
   cases z:cs.lookup b with
   | none=>rfl
   | some v=>rw [(c b v z).1] at e; cases e
  rw [bX q]; exact u.tups b xs (by rw [bo q]; exact e)
 ·have q:cs.lookup b=none:=by
   cases z:cs.lookup b with
   | none=>rfl
   | some v=>rw [(c b v z).1] at e; cases e
  rw [bX q]; exact u.frzs b o x (by rw [bo q]; exact e)
 ·have q:cs.lookup b=none:=by
   cases z:cs.lookup b with
   | none=>rfl
   | some v=>rw [(c b v z).1] at e; cases e
  obtain ⟨m,y⟩:=u.tbls b ps (by rw [bo q]; exact e)
  exact ⟨m,by rw [bX q]; exact y⟩
end
section
variable {X:Cx}{CX:CXT}{k:Nat}{f:Addr}{fd:FuncData}{ps:List Str}{sp:Sp}{cs:List (Addr × Obj)}
theorem xS {pins:List (Addr × Obj)}{σ:St}{H:Hp}{s:Shared}{Q:VK}{us:List Value}{vs:List V}(F:FnOk X.prog X.w X.K X.mg X.base CX k f fd ps sp)(hr:Room k X.A)(hb:ax X.K fd ps [])
 (hx:∀ (H:Hp)(e:Value)(s':Shared),CX X.stack H s (fun _ _ _=>False) e s'->False)
 (I:Inv X pins σ H s)(c:qD cs H s.heap)(nst:∀ a v,cs.lookup a=some v->a ∉ dS X.stack)(nb:∀ a v,cs.lookup a=some v->X.s₀.heap.objs.size≤a)(r:aJ vs us)
 (h:sp vs (de cs H) (fun v H'=>d3 cs H'∧Q v (dU cs H')) fun _ _ _=>False):wpAny (model X.prog X.w) X.A (call (.ref f) us) (EP X pins σ Q) X.xe s:=by
 have hl:us.length=ps.length:=by rw [← r.length]; exact F.len _ _ _ _ h
 have hb':=hb s us I.kIn (by rw [List.append_nil]; exact hl)
 rw [List.append_nil] at hb'
 have out:∀ b,b < X.s₀.heap.objs.size->cs.lookup b=none:=fun b hb=>by
  cases q:cs.lookup b with
  | none=>rfl
  | some v=>exact absurd (Nat.lt_of_lt_of_le hb (nb b v q)) (Nat.lt_irrefl _)
 have e0:Env0 X.prog X.w X.K X.mg X.base X.A X.stack s (de cs H):=⟨I.ok.frames,I.ok.mod,fun b o e=>⟨(I.bs b o e).1,by rw [bo (out b (Nat.lt_of_lt_of_le (Heap.lt_size e) I.ok.bsz))]; exact (I.bs b o e).2⟩,Nat.le_trans I.ok.bsz I.sz,I.stack,fun b hb=>by
  cases q:cs.lookup b with
  | none=>rw [bo q]; exact I.stkFree b hb
  | some v=>exact absurd hb (nst b v q),jF I.hok c,I.bare⟩
 refine wpAny_call (codeAny_mono (F.run X.A X.stack s (de cs H) ⟨us,[]⟩ us vs _ _ hr e0 hb' r h) fun r s' hq=>?_)
 cases r with
 | error e=>exact (hx _ e s' hq).elim
 | ok fl =>
   cases fl with
   | ret u =>
     obtain ⟨v,H',os,bare,un,hok,rv,hci,q⟩:=hq
     exact ⟨v,dU cs H',I.call' (ch:=[]) os (xZ un c hci hok nst) (pj hok hci) bare (fun b z=>absurd z (by simp)),rv,q⟩
   | next=>exact False.elim hq
   | brk=>exact False.elim hq
   | cont=>exact False.elim hq
end
structure Leaves (X:Cx)(E:XK):Prop where
 ex:X.ex=[]
 stk:X.stack=X.env :: X.outer
 fr:X.env.frame=some X.env.locals
 xe:X.xe=fun e s'=>wpAny (model X.prog X.w) X.A (leaving X.env e) (fun _ s''=>aU X.prog X.w X.outer X.H₀ X.s₀ E e s'') (fun e' s''=>aU X.prog X.w X.outer X.H₀ X.s₀ E e' s'') s'
theorem lR {X:Cx}{E:XK}(L:Leaves X E):dC (aU X.prog X.w) X E:=by
 intro pins σ H1 s1 e s' I hx
 obtain ⟨a,cls,a0,B,H',rfl,ho,hg,F,hE⟩:=hx
 rw [L.xe]
 have fl:=F.fly
 rw [L.stk] at fl
 refine wpAny_leaves_onW (L:=X.env.locals) (by rw [I.ok.frames,L.stk]) L.fr fl fun h'' x1 x2=>?_
 exact ⟨a,cls,a0,B,H',rfl,ho.trans I.os,hg,oJ I L.ex F x1 x2,hE⟩
noncomputable def Bv (P:Program)(w:World)(K:Frag)(mg:Str->Option Value)(base:Heap)(N:List Str)(qual:Str)(scope:Scope)(f:Addr)(cd:Value)(clos:List (Str × Addr))(A:Around)(outer:List Env)(s:Shared)(H:Hp)(E:XK):Cx where
 prog:=P
 w:=w
 K:=K
 mg:=mg
 base:=base
 A:=A.deeper (envX qual scope s.heap.objs.size f cd clos)
 N:=N
 s₀:=s
 H₀:=H
 env:=envX qual scope s.heap.objs.size f cd clos
 outer:=outer
 stack:=envX qual scope s.heap.objs.size f cd clos :: outer
 ex:=[]
 calm:=true
 fn:=fun _=>false
 pn:=[]
 xe:=fun e s'=>wpAny (model P w) (A.deeper (envX qual scope s.heap.objs.size f cd clos)) (leaving (envX qual scope s.heap.objs.size f cd clos) e) (fun _ s''=>aU P w outer H s E e s'') (fun e' s''=>aU P w outer H s E e' s'') s'
section
variable {P:Program}{w:World}{K:Frag}{mg:Str->Option Value}{base:Heap}{N:List Str}{qual name:Str}{scope:Scope}{f c':Addr}{clos:List (Str × Addr)}{A:Around}{outer:List Env}{s:Shared}{H:Hp}{E:XK}{Q:VK}
 {params:Arguments}{body:Expr}{pm ctv:Value}{k:Nat}{vs:List V}
theorem jU {cd:Value}:Leaves (Bv P w K mg base N qual scope f cd clos A outer s H E) E:=⟨rfl,rfl,rfl,rfl⟩
theorem ye (hr:Room (k + 1) A)(e0:Env0 P w K mg base A outer s H)(hf:s.heap.get? f=some (kla_obj name qual params body scope clos pm c' ctv))(hcd:s.heap.CodeRec (.ref c') qual)
 (hbind:bindArgs (kla_fn name qual params body scope clos pm (.ref c') ctv) ⟨[],[]⟩=pure [])(hk:scope.kind = .function)(hco:scope.isCoroutine=false)(hgen:scope.isGenerator=false)(hcell:∀ x∈scope.names,x.2 ≠ .cell)
 (has:∀ x,scope.names.lookup x=some .free->∃ c,clos.lookup x=some c)(inj:∀ x y c,clos.lookup x=some c->clos.lookup y=some c->x=y)
 (hcl:∀ x c,clos.lookup x=some c->H c=none∧∃ v,s.heap.IsCell c v)
 (hN:∀ (i:Nat)(x:Str)(v:V),N[i]?=some x->vs[i]?=some v->scope.names.lookup x=some .free∧∃ c u,clos.lookup x=some c∧aB v u∧s.heap.IsCell c (some u))(hl:vs.length=N.length)
 (hbody:∃ t,PE (Bv P w K mg base N qual scope f (.ref c') clos A outer s H E) body t∧t (vs.map some) H Q):
 codeAny (model P w) A (.call (.ref f) ⟨[],[]⟩) (CR (aU P w) outer P w H s Q E) s:=by
 obtain ⟨t,ht,hq⟩:=hbody
 refine kla_callFunE hr.depth hf rfl hco hgen rfl hcd ?_
 rw [hbind]
 have lim:s.heap.NoLimit:=e0.mod.nolimit.keeps fun b o e=>(e0.bs b o e).1
 refine wpAny_pure (wpAny_newFunctionEnv hcell (by intro y hy; simp at hy) (fun h₁ hns hsb=>⟨lim.fresh _ hsb,?_⟩) hk)
 show codeAny _ _ (.expr body (envX qual scope s.heap.objs.size f (.ref c') clos)) _ _
 have hk₁:∀ b o,s.heap.get? b=some o->h₁.get? b=some o:=fun b o e=>hsb.extBut b o (Nat.ne_of_lt (Heap.lt_size e)) (Heap.get?_push_of_some _ e)
 have nocell:∀ x,scope.names.lookup x≠some .cell:=fun x e=>hcell _ (PySem.mem_of_lookup e) rfl
 have I:Inv (Bv P w K mg base N qual scope f (.ref c') clos A outer s H E) [] (vs.map some) H { s with heap:=h₁,toks:=s.toks + ([]:List (Str × Value)).length }:=by
  refine ⟨⟨e0.mod,hk,rfl,rfl,Nat.le_refl _,inj,fun x hx=>?_,fun x c z _=>absurd (show false=true from z) (by decide),fun _=>hr.hd,Around.frames_deeper e0.frames,.inr ⟨rfl,rfl⟩,fun b z=>absurd (show b∈([]:List Addr) from z) (by simp),e0.bs,e0.bsz,
   fun b o _ z=>absurd (show b∈([]:List Addr) from z) (by simp),fun b z=>absurd (show b∈([]:List Addr) from z) (by simp),e0.funs,e0.frf⟩,
   rfl,e0.bare,Un.kept hk₁,⟨_,hns,fun i x v e1 e2 e3=>?_⟩,fun x c e=>?_,e0.hok.fresh (Nat.le_refl _),fun x c e=>(hcl x c e).1,fun p hp=>absurd (show p∈([]:List (Addr × Obj)) from hp) (by simp),e0.hok.kept hk₁,by rw [List.length_map]; exact hl⟩
  ·have hx:scope.names.lookup x=some .cell∨scope.names.lookup x=some .free:=hx
   rcases hx with z | z
   ·exact absurd z (nocell x)
   ·exact has x z
  ·have e2':vs[i]?=some v:=by
    rw [List.getElem?_map] at e2
    cases q:vs[i]? with
    | none=>rw [q] at e2; cases e2
    | some z=>rw [q] at e2; cases e2; rfl
   obtain ⟨fr,c,u,hc,r,z⟩:=hN i x v e1 e2'
   obtain ⟨o,ho,hd⟩:=z
   exact ⟨u,r,.inr ⟨.inr fr,c,hc,o,hk₁ _ _ ho,hd⟩⟩
  ·obtain ⟨_,v,o,ho,hd⟩:=hcl x c e
   exact ⟨v,o,hk₁ _ _ ho,hd⟩
 refine kla_codeExpr (wpAny_mono (ht [] _ _ H Q I hq) (fun v s' ⟨x,H',J,r,q⟩=>?_) fun e s' z=>z)
 exact ⟨x,H',J.os,J.bare,J.base,J.hok,r,q⟩
noncomputable def sM (P:Program)(w:World)(K:Frag)(mg:Str->Option Value)(base:Heap)(k:Nat)(f:Addr)(φ:Hp->VK->XK->Prop):Prop :=
 (∀ H h Q E,eA P w H h->φ H Q E->FnAt f h)∧∀ (A:Around)(outer:List Env)(s:Shared)(H:Hp)(Q:VK)(E:XK),Room k A->Env0 P w K mg base A outer s H->φ H Q E->codeAny (model P w) A (.call (.ref f) ⟨[],[]⟩) (CR (aU P w) outer P w H s Q E) s
end
section
variable {X:Cx}{k i:Nat}{x:Str}{p pos:Pos}{E:St->XK}
noncomputable def vU (P:Program)(w:World)(K:Frag)(mg:Str->Option Value)(base:Heap)(k i:Nat)(E:St->XK):TE:=fun σ H Q=>∃ f φ,σ[i]?=some (some (.ref f))∧sM P w K mg base k f φ∧φ H Q (E σ)
theorem vA (hr:Room k X.A)(hx:∀ (pins:List (Addr × Obj))(σ:St)(H:Hp)(s:Shared)(e:Value)(s':Shared),Inv X pins σ H s->aU X.prog X.w X.stack H s (E σ) e s'->X.xe e s')(hv:PE X (.Name x p) (c7 i)):
 PE X (.Call (.Name x p) [] [] pos) (vU X.prog X.w X.K X.mg X.base k i E):=by
 intro pins s σ H Q I h
 obtain ⟨f,φ,ef,C,q⟩:=h
 refine wpAny_Call_Name_kw (bF (hv pins s σ H (fun v H1=>v = .ref f∧H1=H) I ⟨_,ef,rfl,rfl⟩) fun v s1 ⟨y,H1,I1,r1,ey,eh⟩=>?_)
 subst ey eh
 cases (show v=Value.ref f from r1)
 refine callWith_F0 (C.1 _ _ _ _ I1.hok q) ?_
 refine wpAny_call (codeAny_mono (C.2 X.A X.stack s1 _ Q (E σ) hr I1.env0 q) fun r s' hq=>?_)
 cases r with
 | error e=>exact hx pins σ _ s1 e s' I1 hq
 | ok fl =>
   cases fl with
   | ret u=>exact I1.after hq
   | next=>exact False.elim hq
   | brk=>exact False.elim hq
   | cont=>exact False.elim hq
end
section
variable {P:Program}{w:World}{K:Frag}{mg:Str->Option Value}{base:Heap}{N:List Str}{qual name:Str}{scope:Scope}{f c':Addr}{clos:List (Str × Addr)}{params:Arguments}{body:Expr}{pm ctv:Value}{k:Nat}{vs:List V}{cs:List (Addr × Obj)}{oc:Obj}
noncomputable def lamφ (f c':Addr)(fo oc:Obj)(cs:List (Addr × Obj))(φ0:Hp->VK->XK->Prop):Hp->VK->XK->Prop:=fun H Q E=>H f=some (cZ f fo)∧H c'=some (cZ c' oc)∧d3 cs H∧φ0 (dU cs H) (fun v H'=>Q v (de cs H')) fun cls d H'=>E cls d (de cs H')
theorem uL {φ0:Hp->VK->XK->Prop}(hbind:bindArgs (kla_fn name qual params body scope clos pm (.ref c') ctv) ⟨[],[]⟩=pure [])(hk:scope.kind = .function)(hco:scope.isCoroutine=false)(hgen:scope.isGenerator=false)(hcell:∀ x∈scope.names,x.2 ≠ .cell)
 (has:∀ x,scope.names.lookup x=some .free->∃ c,clos.lookup x=some c)(inj:∀ x y c,clos.lookup x=some c->clos.lookup y=some c->x=y)(hoc:∃ ws t,oc.data = .fields ws∧ws[1]?=some (.str qual t))
 (hcs:∀ x c,clos.lookup x=some c->∃ o v,cs.lookup c=some o∧o.data = .cell v)
 (hN:∀ (i:Nat)(x:Str)(v:V),N[i]?=some x->vs[i]?=some v->scope.names.lookup x=some .free∧∃ c o u,clos.lookup x=some c∧cs.lookup c=some o∧o.data = .cell (some u)∧aB v u)(hl:vs.length=N.length)
 (hbody:∀ (A:Around)(outer:List Env)(s:Shared)(H:Hp)(Q:VK)(E:XK),Room k (A.deeper (envX qual scope s.heap.objs.size f (.ref c') clos))->φ0 H Q E->∃ t,PE (Bv P w K mg base N qual scope f (.ref c') clos A outer s H E) body t∧t (vs.map some) H Q):
 sM P w K mg base (k + 1) f (lamφ f c' (kla_obj name qual params body scope clos pm c' ctv) oc cs φ0):=by
 refine ⟨fun H h Q E hok q=>?_,fun A outer s H Q E hr e0 q=>?_⟩
 ·have e:h.get? f=some _:=(hok f _ q.1).1
  exact ⟨_,_,_,_,e⟩
 ·obtain ⟨qf,qc,qi,q0⟩:=q
  have ef:s.heap.get? f=some _:=(e0.hok f _ qf).1
  have ec:s.heap.get? c'=some oc:=(e0.hok c' _ qc).1
  have at_:∀ c o,cs.lookup c=some o->s.heap.get? c=some o:=fun c o e=>(e0.hok c _ (qi c o e)).1
  have nfr:∀ c o,cs.lookup c=some o->c ∉ dS outer:=fun c o e hb=>by
   have:=e0.frf c hb
   rw [qi c o e] at this
   cases this
  have hidnone:∀ b,H b=none->dU cs H b=none:=fun b n=>by
   cases q:cs.lookup b with
   | some v=>exact dW q
   | none=>rw [bX q]; exact n
  have e1:Env0 P w K mg base A outer s (dU cs H):=⟨e0.frames,e0.mod,fun b o e=>⟨(e0.bs b o e).1,hidnone b (e0.bs b o e).2⟩,e0.bsz,e0.funs,fun b hb=>hidnone b (e0.frf b hb),pj e0.hok qi,e0.bare⟩
  obtain ⟨ws,t,d1,d2⟩:=hoc
  have cellH:∀ {H':Hp}{h':Heap},Un (dS outer) [] (dU cs H) H' s.heap h'->∀ a o,cs.lookup a=some o->H' a=none:=fun u a o e=>u.free a o (at_ a o e) (dW e) (by simp)
  refine codeAny_mono (ye (c':=c') (clos:=clos) (N:=N) (vs:=vs) hr e1 ef ⟨c',oc,ws,t,rfl,ec,d1,d2⟩ hbind hk hco hgen hcell has inj (fun x c e=>?_) (fun i x v a b=>?_) hl (hbody A outer s _ _ _ (hr.deeper _) q0)) fun r s' hq=>?_
  ·obtain ⟨o,v,e2,d⟩:=hcs x c e
   exact ⟨dW e2,v,o,at_ c o e2,d⟩
  ·obtain ⟨fr,c,o,u,z1,z2,z3,z4⟩:=hN i x v a b
   exact ⟨fr,c,u,z1,z4,o,at_ c o z2,z3⟩
  ·cases r with
   | error e =>
     obtain ⟨a,cls,a0,B,H',rfl,os,bare,F,hE⟩:=hq
     have hB:∀ c o,cs.lookup c=some o->B.get? c=some o:=fun c o e=>F.keep c o (at_ c o e) (dW e) (nfr c o e)
     have hH:∀ c o,cs.lookup c=some o->H' c=none:=cellH F.un
     refine ⟨a,cls,a0,B,de cs H',rfl,os,bare,⟨F.fly,sh F.un qi hH,fun b o e n hb=>F.keep b o e (hidnone b n) hb,F.there,jF F.hok fun c o e=>⟨hH c o e,hB c o e⟩,?_⟩,hE⟩
     have na:cs.lookup a=none:=by
      cases q:cs.lookup a with
      | none=>rfl
      | some o =>
        have:=hB a o q
        rw [F.fly.2.1] at this
        cases this
     rw [bo na]
     exact F.new
   | ok fl =>
     cases fl with
     | ret u =>
       obtain ⟨v,H',os,bare,un,hok,rv,q⟩:=hq
       have hH:=cellH un
       exact ⟨v,de cs H',os,bare,sh un qi hH,jF hok fun c o e=>⟨hH c o e,un.keep c o (at_ c o e) (dW e) (nfr c o e) (by simp)⟩,rv,q⟩
     | next=>exact False.elim hq
     | brk=>exact False.elim hq
     | cont=>exact False.elim hq
end
section
variable {X:Cx}{params:Arguments}{body:Expr}{scope osc:Scope}{pos:Pos}{cc Pt:Addr}
structure MkFn (X:Cx)(cc Pt:Addr):Prop where
 code:X.env.code = .ref cc
 hd:CodeHd X.base cc Pt
 bm:∃ bm ob,X.mg "__builtins__"=some (.ref bm)∧bm≠builtinsNs∧X.base.get? bm=some ob∧ob.cls = .type "module"∧ob.dict=some builtinsNs∧ob.data = .plain
noncomputable abbrev dZ (X:Cx)(params:Arguments)(body:Expr)(scope:Scope)(c':Addr)(ctv:Value):Obj:=kla_obj "<lambda>" (X.env.qual++"<lambda>") params body scope (eW scope.names X.env) ((X.mg "__name__").getD .none) c' ctv
noncomputable def dO (q:Str)(oc:Obj):Prop:=∃ ws t,oc.data = .fields ws∧ws[1]?=some (.str q t)
noncomputable def AV (X:Cx)(params:Arguments)(body:Expr)(scope:Scope)(pos:Pos)(Pt:Addr):TE:=fun _ H Q=>∃ ps,H Pt=some (.tbl ps)∧TriplesOk ps.toList ∧
 ((codeAmong pos ps.toList=none∧∀ c' f oc ctv,H c'=none->H f=none->c'≠f->dO (X.env.qual++"<lambda>") oc →
  Q (.ref f) (upd (upd (upd H Pt (.tbl (ps++#[rawInt pos.line,rawInt pos.col,.ref c']))) c' (cZ c' oc)) f (cZ f (dZ X params body scope c' ctv)))) ∨
  ∃ c' oc,codeAmong pos ps.toList=some (.ref c')∧H c'=some (cZ c' oc)∧dO (X.env.qual++"<lambda>") oc∧∀ f ctv,H f=none->Q (.ref f) (upd H f (cZ f (dZ X params body scope c' ctv))))
theorem mq (M:MkFn X cc Pt)(hosc:X.env.scope=osc)(hfree:∀ y∈scope.names,y.2 = .free->osc.names.lookup y.1=some .cell∨osc.names.lookup y.1=some .free)(hdef:defaultsOf params X.env=([],[])):
 PE X (.Lambda params body scope pos) (AV X params body scope pos Pt):=by
 intro pins s σ H Q I h
 obtain ⟨ps,hP,ht,h⟩:=h
 have hcl:closureFor scope X.env=pure (eW scope.names X.env):=gz fun y hy hf=>by
  have z:=hfree y hy hf
  rw [← hosc] at z
  exact I.ok.has y.1 z
 have eP:s.heap.get? Pt=some (tabObj ps):=I.hok Pt _ hP
 have hg:s.heap.Ns mainGlobals X.mg:=I.mod.glob.keeps I.bk
 have hgP:mainGlobals≠Pt:=fun q=>by
  obtain ⟨o,es,ep,e,hd,_⟩:=hg
  rw [q,eP] at e
  cases e
  cases hd
 obtain ⟨bm,ob,b1,b2,b3,b4,b5,b6⟩:=M.bm
 have hbP:bm≠Pt:=fun q=>by
  have e:=I.bk _ _ b3
  rw [q,eP] at e
  cases e
  cases b4
 have hbG:bm≠mainGlobals:=fun q=>by
  obtain ⟨o,es,ep,e,hd,_⟩:=hg
  rw [← q,I.bk _ _ b3] at e
  cases e
  rw [b6] at hd
  cases hd
 have C:=M.hd.keeps I.bk
 have nP:∀ b,H b=none->b≠Pt:=fun b n z=>by rw [z,hP] at n; cases n
 refine kla_eval hdef ?_
 rcases h with ⟨hn,q⟩ | ⟨c',oc,hf,hc',ho,q⟩
 ·refine kla_makeFunction (mg:=X.mg) hcl I.ok.glob hg M.code C eP ht hn hgP ⟨bm,ob,b1,b2,hbG,hbP,I.bk _ _ b3,b4,b5,b6⟩ fun c' ctv h' tk hx hge hlt hrec htb=>?_
  obtain ⟨c2,oc,ws,t,e2,hoc,hd,hv⟩:=hrec
  cases e2
  have hsz:s.heap.objs.size≤h'.objs.size:=Nat.le_trans hge (Nat.le_of_lt hlt)
  have fc:H c'=none:=I.hok.fresh hge
  have ff:H h'.objs.size=none:=I.hok.fresh hsz
  have nef:c'≠h'.objs.size:=Nat.ne_of_lt hlt
  have old:∀ b o,b≠Pt->s.heap.get? b=some o->(h'.push (dZ X params body scope c' ctv)).get? b=some o:=fun b o n e=>Heap.get?_push_of_some _ (hx b o n e)
  have lt:∀ b o,s.heap.get? b=some o->b≠c'∧b≠h'.objs.size:=fun b o e=>⟨Nat.ne_of_lt (Nat.lt_of_lt_of_le (Heap.lt_size e) hge),Nat.ne_of_lt (Nat.lt_of_lt_of_le (Heap.lt_size e) hsz)⟩
  have P1:Pt≠c':=(lt _ _ eP).1
  have P2:Pt≠h'.objs.size:=(lt _ _ eP).2
  have nH:∀ b o,H b=some o->b≠Pt->(upd (upd (upd H Pt (.tbl (ps++#[rawInt pos.line,rawInt pos.col,.ref c']))) c' (cZ c' oc)) h'.objs.size (cZ h'.objs.size (dZ X params body scope c' ctv))) b=some o:=fun b o e n=>by
   obtain ⟨ob,eb⟩:=(I.hok b o e).there
   rw [al (lt b ob eb).2,al (lt b ob eb).1,al n]
   exact e
  refine ⟨.ref h'.objs.size,_,I.un (t':=tk) (H':=upd (upd (upd H Pt (.tbl (ps++#[rawInt pos.line,rawInt pos.col,.ref c']))) c' (cZ c' oc)) h'.objs.size (cZ h'.objs.size (dZ X params body scope c' ctv))) ?_ ?_,rfl,q c' h'.objs.size oc ctv fc ff nef ⟨ws,t,hd,hv⟩⟩
  ·refine ⟨fun b o e n _ _=>old b o (nP b n) e,fun b o e n _ _=>⟨o.slots,old b o (nP b n) e⟩,fun b o e n _=>?_,fun b o e _=>?_,fun b xs e=>nH b _ e (fun z=>by rw [z,hP] at e; cases e),fun b o u e=>nH b _ e (fun z=>by rw [z,hP] at e; cases e),fun b rs e=>?_⟩
   ·rw [al (lt b o e).2,al (lt b o e).1,al (nP b n)]; exact n
   ·by_cases z:b=Pt
    ·exact ⟨_,by rw [z]; exact Heap.get?_push_of_some _ htb⟩
    ·exact ⟨o,old b o z e⟩
   ·by_cases z:b=Pt
    ·rw [z,hP] at e
     cases e
     exact ⟨_,by rw [z,al P2,al P1,ac]⟩
    ·exact ⟨#[],by rw [nH b _ e z]; simp⟩
  ·intro b o e
   by_cases z1:b=h'.objs.size
   ·subst z1
    rw [ac] at e
    cases e
    exact jh (Heap.get?_push_size _ rfl)
   ·rw [al z1] at e
    by_cases z2:b=c'
    ·subst z2
     rw [ac] at e
     cases e
     exact jh (Heap.get?_push_of_some _ hoc)
    ·rw [al z2] at e
     by_cases z3:b=Pt
     ·subst z3
      rw [ac] at e
      cases e
      exact Heap.get?_push_of_some _ htb
     ·rw [al z3] at e
      refine (I.hok b o e).stay (fun c v hc q=>old c v (fun z=>?_) q) (fun c q=>nH c _ q fun z=>by rw [z,hP] at q; cases q) fun c xs q=>nH c _ q fun z=>by rw [z,hP] at q; cases q
      rcases hc with hc | hc
      ·exact z3 (hc ▸ z)
      ·rw [z,hP] at hc; cases hc
 ·refine kla_makeFunctionHit (mg:=X.mg) hcl I.ok.glob hg M.code C eP ht hf ⟨bm,ob,b1,b2,hbG,hbP,I.bk _ _ b3,b4,b5,b6⟩ fun ctv h' tk hk hsz=>?_
  have ff:H h'.objs.size=none:=I.hok.fresh hsz
  refine ⟨.ref h'.objs.size,_,I.laid (t':=tk) (fun b u e=>Heap.get?_push_of_some _ (hk b u e)) hsz (jh (Heap.get?_push_size _ rfl)),rfl,q _ ctv ff⟩
end
noncomputable def vP (tabs:List (Addr × Addr))(H:Hp):Prop:=(∀ b,H b=none∨(∃ o xs,H b=some (.frz o (.lst xs)))∨(H b=some (.tbl #[])∧∃ c,(c,b)∈tabs))∧∀ q∈tabs,H q.2=some (.tbl #[])
structure BaseT (tabs:List (Addr × Addr))(mg:Str->Option Value)(base:Heap):Prop where
 hd:∀ q∈tabs,CodeHd base q.1 q.2
 bm:∃ bm ob,mg "__builtins__"=some (.ref bm)∧bm≠builtinsNs∧base.get? bm=some ob∧ob.cls = .type "module"∧ob.dict=some builtinsNs∧ob.data = .plain
theorem tV {P:Program}{w:World}{K:Frag}{mg mb:Str->Option Value}{CX:CXT}{k:Nat}{fa a:Addr}{fd:FuncData}{x:Str}{sp:Sp}{s₁:Shared}{vs:List Value}{ns:List Int}{tabs:List (Addr × Addr)}
 (KX:K.In s₁.heap)(hns:s₁.heap.Ns mainGlobals mg)(hb:s₁.heap.Ns builtinsNs mb)(hbb:∀ x:Str,x ≠ "__name__"->mb x=bootBuiltins x)(hlim:s₁.heap.NoLimit)(hg:s₁.gens = #[])
 (ha:s₁.heap.get? a=some { cls:=.type "list",data:=.seq vs.toArray })(hi:IntsAre vs ns)(hl:ns.length≤sizeLine)(hr:Room k callerA)(hT:TabsAt tabs s₁.heap)(hKT:∀ q∈tabs,K.lookup q.2=none)
 (hbm:∃ bm ob,mg "__builtins__"=some (.ref bm)∧bm≠builtinsNs∧s₁.heap.get? bm=some ob∧ob.cls = .type "module"∧ob.dict=some builtinsNs∧ob.data = .plain)
 (F:∀ base:Heap,K.In base->base.Ns mainGlobals mg->BaseT tabs mg base->FnOk P w K mg base CX k fa fd [x] sp)(hbind:∀ (s:Shared)(u:Value),BindsTo s fd ⟨[u],[]⟩ [(x,u)])
 (hsp:∀ H:Hp,vP tabs H->aO K H a (ns.map V.int)->sp [.ref a] H (fun v _=>v = .bl true) fun _ _ _=>False)
 (hCX:∀ H e s',CX [] H s₁ (fun _ _ _=>False) e s'->False):
 codeAny (model P w) callerA (.call (.ref fa) ⟨[.ref a],[]⟩) (fun r s'=>r = .ok (.ret (.bool true))∧OldK s₁.heap s'.heap∧s'.os=s₁.os∧AllBare s'.gens) s₁:=by
 have rv:=lL hi
 have lenV:=hi.length
 have iP:∀ b,(∃ c,(c,b)∈tabs)->s₁.heap.get? b=some (tabObj #[]):=fun b ⟨c,hc⟩=>(hT _ hc).2
 have core:∀ H:Hp,vP tabs H->aO K H a (ns.map V.int)->eA P w H s₁.heap->(∀ b,H b≠none->b=a∨∃ c,(c,b)∈tabs)->(H a≠none->K.lookup a=none) →
  codeAny (model P w) callerA (.call (.ref fa) ⟨[.ref a],[]⟩) (fun r s'=>r = .ok (.ret (.bool true))∧OldK s₁.heap s'.heap∧s'.os=s₁.os∧AllBare s'.gens) s₁:=by
  intro H hO hS hok hA hK
  have base_of:∀ {b:Addr}{o:Obj},s₁.heap.get? b=some o->H b=none->(ll s₁.heap H).get? b=some o:=fun e n=>vS e n
  have noO:∀ {b:Addr}{o:Obj},s₁.heap.get? b=some o->o.cls ≠ .none->(∀ its n,o.data ≠ .seq its n)->H b=none:=fun {b o} e d1 d2=>by
   cases q:H b with
   | none=>rfl
   | some u =>
     rcases hA b (by rw [q]; simp) with e' | e'
     ·subst e'
      rw [ha] at e; cases e
      exact absurd rfl (d2 _ _)
     ·rw [iP b e'] at e; cases e
      exact absurd rfl d1
  have noA:∀ {b:Addr}{o:Obj}{es:Array DictEntry}{ep:Nat},s₁.heap.get? b=some o->o.data = .dict es ep->H b=none:=fun {b o es ep} e d=>by
   cases q:H b with
   | none=>rfl
   | some u =>
     rcases hA b (by rw [q]; simp) with e' | e'
     ·subst e'
      rw [ha] at e; cases e
      have d':Data.seq vs.toArray _=Data.dict es ep:=d
      cases d'
     ·rw [iP b e'] at e; cases e
      have d':Data.fields #[]=Data.dict es ep:=d
      cases d'
  have nsK:∀ {b:Addr}{m:Str->Option Value},s₁.heap.Ns b m->(ll s₁.heap H).Ns b m:=fun {b m} ⟨o,es,ep,e,d,r⟩=>⟨o,es,ep,base_of e (noA e d),d,r⟩
  have hKb:K.In (ll s₁.heap H):=fun b o e=>base_of (KX b o e) (by
   cases q:H b with
   | none=>rfl
   | some u =>
     rcases hA b (by rw [q]; simp) with e' | ⟨c,e'⟩
     ·subst e'
      rw [hK (by rw [q]; simp)] at e; cases e
     ·have z:=hKT _ e'
      rw [z] at e; cases e)
  have hM:Mod K mg (ll s₁.heap H):=⟨hKb,nsK hns,⟨mb,nsK hb,hbb⟩,let ⟨mc,h1,h2⟩:=hlim; ⟨mc,nsK h1,h2⟩⟩
  have hBT:BaseT tabs mg (ll s₁.heap H):=by
   refine ⟨fun q hq=>?_,?_⟩
   ·obtain ⟨o,ws,file,tf,flags,tg,inF,text,tt,e1,r1,r2,r3⟩:=(hT q hq).1
    exact ⟨o,ws,file,tf,flags,tg,inF,text,tt,base_of e1 (noO e1 (by rw [r1]; intro z; cases z) (fun its n z=>by rw [r2] at z; cases z)),r1,r2,r3⟩
   ·obtain ⟨bm,ob,b1,b2,b3,b4,b5,b6⟩:=hbm
    exact ⟨bm,ob,b1,b2,base_of b3 (noO b3 (by rw [b4]; intro z; cases z) (fun its n z=>by rw [b6] at z; cases z)),b4,b5,b6⟩
  have e0:Env0 P w K mg (ll s₁.heap H) callerA [] s₁ H:=⟨rfl,hM,fun b o e=>yJ e,Nat.le_of_eq (ue _ _),trivial,fun b hb=>absurd (show b∈([]:List Addr) from hb) (by simp),hok,.of_eq hg⟩
  refine codeAny_mono ((F _ hKb (nsK hns) hBT).run callerA [] s₁ H ⟨[.ref a],[]⟩ [.ref a] [.ref a] _ _ hr e0 (hbind s₁ (.ref a)) (.cons rfl .nil) (hsp H hO hS)) fun r s' h=>?_
  cases r with
  | error e=>exact (hCX H e s' h).elim
  | ok fl =>
    cases fl with
    | next=>exact False.elim h
    | brk=>exact False.elim h
    | cont=>exact False.elim h
    | ret u =>
      obtain ⟨v,H',os,bare,un,hok',r',q⟩:=h
      have q':v = .bl true:=q
      subst q'
      obtain rfl:u=Value.bool true:=r'
      refine ⟨rfl,⟨fun b o e=>?_,fun b o e=>un.there b o e (by simp)⟩,os,bare⟩
      cases q:H b with
      | none=>exact .inl (un.keep b o e q (by intro z; exact absurd (show b∈([]:List Addr) from z) (by simp)) (by simp))
      | some u =>
        rcases hO.1 b with z | ⟨ob,xs,z⟩ | ⟨z,c,hc⟩
        ·rw [q] at z; cases z
        ·have z2:=un.frzs b ob _ z
         obtain ⟨e1,_⟩:=hok b _ z
         obtain ⟨e2,_⟩:=hok' b _ z2
         rw [e] at e1; cases e1
         exact .inl e2
        ·obtain ⟨more,z2⟩:=un.tbls b _ z
         have e2:s'.heap.get? b=some { cls:=.none,data:=.fields (#[]++more) }:=hok' b _ z2
         have e1:=iP b ⟨c,hc⟩
         rw [e] at e1; cases e1
         exact .inr (.inl ⟨((hT _ hc).1.tab (hT _ hc).2).isCodeTable,rfl,#[],more,rfl,e2⟩)
 have aT:∀ c,(c,a) ∉ tabs:=fun c hc=>by
  have z:=iP a ⟨c,hc⟩
  rw [ha] at z
  cases z
 have memT:∀ b,Decidable (∃ c,(c,b)∈tabs):=fun b=>Classical.propDecidable _
 cases hk:K.lookup a with
 | some o =>
   have e:=KX a o hk
   rw [ha] at e
   cases e
   refine core (fun b=>@ite _ (∃ c,(c,b)∈tabs) (memT b) (some (.tbl #[])) none) ⟨fun b=>?_,fun q hq=>?_⟩ (.inr ⟨_,vs.toArray,_,hk,rfl,rfl,rfl,by rw [List.size_toArray,lenV]; exact hl,by simpa using rv⟩) (fun b u z=>?_) (fun b z=>?_) fun z=>?_
   ·by_cases hb:∃ c,(c,b)∈tabs
    ·exact .inr (.inr ⟨if_pos hb,hb⟩)
    ·exact .inl (if_neg hb)
   ·exact if_pos ⟨q.1,hq⟩
   ·by_cases hb:∃ c,(c,b)∈tabs
    ·have z':=(if_pos hb).symm.trans z
     cases z'
     exact iP b hb
    ·have z':=(if_neg hb).symm.trans z
     cases z'
   ·by_cases hb:∃ c,(c,b)∈tabs
    ·exact .inr hb
    ·exact absurd (if_neg hb) z
   ·exact absurd (if_neg fun ⟨c,hc⟩=>aT c hc) z
 | none =>
   refine core (fun b=>if b=a then some (.frz { cls:=.type "list",data:=.seq vs.toArray } (.lst (ns.map V.int))) else @ite _ (∃ c,(c,b)∈tabs) (memT b) (some (.tbl #[])) none) ⟨fun b=>?_,fun q hq=>?_⟩ (.inl (.inr ⟨{ cls:=.type "list",data:=.seq vs.toArray },if_pos rfl⟩)) (fun b u z=>?_) (fun b z=>?_) fun _=>hk
   ·by_cases hb:b=a
    ·exact .inr (.inl ⟨_,_,if_pos hb⟩)
    ·by_cases ht:∃ c,(c,b)∈tabs
     ·exact .inr (.inr ⟨(if_neg hb).trans (if_pos ht),ht⟩)
     ·exact .inl ((if_neg hb).trans (if_neg ht))
   ·have hb:q.2≠a:=fun z=>aT q.1 (by rw [← z]; exact hq)
    exact (if_neg hb).trans (if_pos ⟨q.1,hq⟩)
   ·by_cases hb:b=a
    ·have z':=(if_pos hb).symm.trans z
     cases z'
     subst hb
     exact ⟨ha,by rw [List.length_map]; exact hl,vs,_,rv,ha⟩
    ·have z':=(if_neg hb).symm.trans z
     by_cases ht:∃ c,(c,b)∈tabs
     ·have z2:=(if_pos ht).symm.trans z'
      cases z2
      exact iP b ht
     ·have z2:=(if_neg ht).symm.trans z'
      cases z2
   ·by_cases hb:b=a
    ·exact .inl hb
    ·by_cases ht:∃ c,(c,b)∈tabs
     ·exact .inr ht
     ·exact absurd ((if_neg hb).trans (if_neg ht)) z
structure FunD (K:Frag)(x qual:Str)(st:Stmt)(f:Addr)(fd:FuncData)(T:Addr):Prop where
 ex:∃ (oc:Value)(od:Option Addr)(kV doc pm:Value)(an:Option Addr)(cdv ct:Value)(osl:Array (Option Value)),
  fd=fnOf x qual (cm st) (bv st) (aj st) (.ref T) kV doc pm an cdv ct∧K.lookup f=some ⟨oc,od,.func fd,osl⟩∧codeIn K cdv qual=true
 kp:keepIn K (.ref f)=true
section
variable {P:Program}{w:World}{K:Frag}{mg:Str->Option Value}{base:Heap}
theorem FunD.okE {x qual:Str}{st:Stmt}{f T:Addr}{fd:FuncData}{N ps:List Str}{k:Nat}{sp:Sp}(F:FunD K x qual st f fd T)(S:FnScope N ps (aj st))(len:∀ vs H Q E,sp vs H Q E->vs.length=ps.length)
 (hbody:∀ (cdv:Value)(A:Around)(outer:List Env)(s:Shared)(H:Hp)(vs:List V)(Q:VK)(E:XK),Room k (A.deeper (envOfC qual (aj st) s.heap.objs.size f cdv))->sp vs H Q E →
  ∃ t,ja (gr (aU P w) P w K mg base N qual (aj st) f cdv A outer s H E) (bv st) t∧t { nx:=fun _ H'=>Q .non H',rt:=Q } (fH N vs) H):FnOk P w K mg base (aU P w) (k + 1) f fd ps sp:=by
 obtain ⟨oc,od,kV,doc,pm,an,cdv,ct,osl,rfl,lk,hcd⟩:=F.ex
 exact rV lk hcd S len fun A outer s H vs Q E hr hsp=>hbody cdv A outer s H vs Q E hr hsp
theorem xH {x qual:Str}{st:Stmt}{f T:Addr}{oc:Value}{od an:Option Addr}{osl:Array (Option Value)}{kV doc pm cdv ct:Value}(l:K.lookup f=some ⟨oc,od,.func (fnOf x qual (cm st) (bv st) (aj st) (.ref T) kV doc pm an cdv ct),osl⟩)
 (c:codeIn K cdv qual=true)(k:keepIn K (.ref f)=true):FunD K x qual st f (fnOf x qual (cm st) (bv st) (aj st) (.ref T) kV doc pm an cdv ct) T:=⟨⟨oc,od,kV,doc,pm,an,cdv,ct,osl,rfl,l,c⟩,k⟩
end
noncomputable def fG (X:Cx)(y:Str):Addr:=(X.env.cells.lookup y).getD 0
noncomputable def fL:Expr->Bool
 | .Starred _ _=>true
 | _=>false
theorem bn {e:Expr}{rest:List Expr}{env:Env}(h:fL e=false):starEach (e :: rest) env=(false,eval e env):: starEach rest env:=by
 rw [starEach]
 intro e' p z
 subst z
 cases h
section
variable {X:Cx}{e:Expr}{es:List Expr}{te:TE}{t:TA}
theorem ag (ha:PE X e te)(hr:PA X es t)(h:fL e=false:=by rfl):PA X (e :: es) (cf te t):=aR ha hr (bn h)
end
inductive D where
 | non | bl (b:Bool) | int (i:Int) | str (x:Str) | lst (ds:List D) | tup (ds:List D)
mutual
noncomputable def aI (K:Frag)(H:Hp):D->V->Prop
 | .non,v=>v = .non
 | .bl b,v=>v = .bl b
 | .int i,v=>v = .int i
 | .str x,v=>v = .str x
 | .lst ds,v=>∃ a xs,v = .ref a∧aO K H a xs∧ba K H ds xs
 | .tup ds,v=>∃ a xs,v = .ref a∧bc K H a xs∧ba K H ds xs
noncomputable def ba (K:Frag)(H:Hp):List D->List V->Prop
 | [],xs=>xs=[]
 | d :: ds,xs=>∃ y ys,xs=y :: ys∧aI K H d y∧ba K H ds ys
end
mutual
noncomputable def dX:D->D->Bool
 | .non,.non=>true
 | .bl a,.bl b=>a == b
 | .bl a,.int b=>(if a then 1 else 0) == b
 | .int a,.bl b=>a == (if b then 1 else 0)
 | .int a,.int b=>a == b
 | .str a,.str b=>a == b
 | .lst a,.lst b=>dn a b
 | .tup a,.tup b=>dn a b
 | _,_=>false
noncomputable def dn:List D->List D->Bool
 | [],[]=>true
 | a :: as,b :: bs=>dX a b&&dn as bs
 | _,_=>false
end
mutual
noncomputable def jl:D->Nat
 | .lst ds=>eE ds + 1
 | .tup ds=>eE ds + 1
 | _=>0
noncomputable def eE:List D->Nat
 | []=>0
 | d :: ds=>max (jl d) (eE ds)
end
theorem rX:∀ {ds:List D}{d:D},d∈ds->jl d≤eE ds
 | e :: ds,d,h=>by
   unfold eE
   rcases List.mem_cons.mp h with rfl | h
   ·exact Nat.le_max_left _ _
   ·exact Nat.le_trans (rX h) (Nat.le_max_right _ _)
theorem gC:∀ (as bs:List D),dn as bs=((List.range (min as.length bs.length)).all (fun j=>dX (as.getD j .non) (bs.getD j .non))&&as.length == bs.length)
 | [],[]=>rfl
 | [],b :: bs=>by simp [dn]
 | a :: as,[]=>by simp [dn]
 | a :: as,b :: bs=>by
   unfold dn
   rw [gC as bs]
   have e:min (a :: as).length (b :: bs).length=min as.length bs.length + 1:=by simp [Nat.succ_min_succ]
   rw [e,List.range_succ_eq_map,List.all_cons,List.all_map]
   have h1:((a :: as).length == (b :: bs).length)=(as.length == bs.length):=by simp
   rw [h1,Bool.and_assoc]
   rfl
theorem ba.len {K:Frag}{H:Hp}:∀ {ds:List D}{xs:List V},ba K H ds xs->ds.length=xs.length
 | [],xs,h=>by
   have h:xs=[]:=by unfold ba at h; exact h
   rw [h]
   rfl
 | d :: ds,xs,h=>by
   unfold ba at h
   obtain ⟨y,ys,rfl,_,h⟩:=h
   simp [ba.len h]
theorem ba.get {K:Frag}{H:Hp}:∀ {ds:List D}{xs:List V}{j:Nat}(hj:j < xs.length),ba K H ds xs->aI K H (ds.getD j .non) xs[j]∧ds.getD j .non∈ds
 | [],xs,j,hj,h=>by
   have h:xs=[]:=by unfold ba at h; exact h
   subst h
   exact absurd hj (by simp)
 | d :: ds,xs,j,hj,h=>by
   unfold ba at h
   obtain ⟨y,ys,rfl,hd,h⟩:=h
   cases j with
   | zero=>exact ⟨hd,List.mem_cons_self⟩
   | succ j =>
     obtain ⟨h1,h2⟩:=ba.get (j:=j) (by simpa using hj) h
     exact ⟨h1,List.mem_cons_of_mem _ h2⟩
mutual
theorem dt:∀ d:D,dX d d=true
 | .non=>rfl
 | .bl b=>by unfold dX; simp
 | .int i=>by unfold dX; simp
 | .str x=>by unfold dX; simp
 | .lst ds=>by unfold dX; exact iq ds
 | .tup ds=>by unfold dX; exact iq ds
theorem iq:∀ ds:List D,dn ds ds=true
 | []=>rfl
 | d :: ds=>by unfold dn; rw [dt d,iq ds]; rfl
end
section
variable {X:Cx}{pins:List (Addr × Obj)}{σ:St}{H:Hp}{s:Shared}
theorem fB (I:Inv X pins σ H s){a:Addr}{xs ys:List V}(h1:aO X.K H a xs)(h2:bc X.K H a ys):False:=by
 obtain ⟨its,_,p1,_⟩:=I.list h1
 obtain ⟨its2,_,p2,_⟩:=I.tuple h2
 exact SeqAt.ne_of_list_tuple p1.isList (show s.heap.IsTuple a its2.toArray from p2) rfl
mutual
theorem kf (I:Inv X pins σ H s):∀ (d e:D)(v:V),aI X.K H d v->aI X.K H e v->dX d e=true
 | .non,e,v,h1,h2=>by
   unfold aI at h1
   subst h1
   cases e <;> unfold aI at h2 <;> first | (obtain ⟨_,_,z,_⟩:=h2; cases z; done) | rfl | (cases h2; done)
 | .bl b,e,v,h1,h2=>by
   unfold aI at h1
   subst h1
   cases e <;> unfold aI at h2 <;> first | (obtain ⟨_,_,z,_⟩:=h2; cases z; done) | (cases h2; exact dt _) | (cases h2; done)
 | .int b,e,v,h1,h2=>by
   unfold aI at h1
   subst h1
   cases e <;> unfold aI at h2 <;> first | (obtain ⟨_,_,z,_⟩:=h2; cases z; done) | (cases h2; exact dt _) | (cases h2; done)
 | .str b,e,v,h1,h2=>by
   unfold aI at h1
   subst h1
   cases e <;> unfold aI at h2 <;> first | (obtain ⟨_,_,z,_⟩:=h2; cases z; done) | (cases h2; exact dt _) | (cases h2; done)
 | .lst ds,e,v,h1,h2=>by
   unfold aI at h1
   obtain ⟨a,xs,rfl,q,r⟩:=h1
   cases e with
   | lst es =>
     unfold aI at h2
     obtain ⟨b,ys,z,q2,r2⟩:=h2
     cases z
     have e:=I.list_inj q q2
     subst e
     unfold dX
     exact ik I ds es xs r r2
   | tup es =>
     unfold aI at h2
     obtain ⟨b,ys,z,q2,r2⟩:=h2
     cases z
     exact (fB I q q2).elim
   | _=>unfold aI at h2; cases h2
 | .tup ds,e,v,h1,h2=>by
   unfold aI at h1
   obtain ⟨a,xs,rfl,q,r⟩:=h1
   cases e with
   | tup es =>
     unfold aI at h2
     obtain ⟨b,ys,z,q2,r2⟩:=h2
     cases z
     have e:=I.tuple_inj q q2
     subst e
     unfold dX
     exact ik I ds es xs r r2
   | lst es =>
     unfold aI at h2
     obtain ⟨b,ys,z,q2,r2⟩:=h2
     cases z
     exact (fB I q2 q).elim
   | _=>unfold aI at h2; cases h2
theorem ik (I:Inv X pins σ H s):∀ (ds es:List D)(xs:List V),ba X.K H ds xs->ba X.K H es xs->dn ds es=true
 | [],es,xs,h1,h2=>by
   unfold ba at h1
   subst h1
   cases es with
   | nil=>rfl
   | cons e es=>unfold ba at h2; obtain ⟨_,_,z,_⟩:=h2; cases z
 | d :: ds,es,xs,h1,h2=>by
   unfold ba at h1
   obtain ⟨y,ys,rfl,hd,h1⟩:=h1
   cases es with
   | nil=>unfold ba at h2; cases h2
   | cons e es =>
     unfold ba at h2
     obtain ⟨_,_,z,he,h2⟩:=h2
     cases z
     unfold dn
     rw [kf I d e y hd he,ik I ds es ys h1 h2]
     rfl
end
theorem jL (I:Inv X pins σ H s)(n:Nat)(ih:n≠0->∀ (A:Around)(d e:D)(x y:V)(u v:Value),jl d≤n - 1->A.units + (n - 1) < cLine->aI X.K H d x->aI X.K H e y->aB x u->aB y v->SeqAt.EqAt A s u v (dX d e))
 (hn0:n≠0)(A:Around)(hu:A.units + n < cLine){ds es:List D}{xs ys:List V}{its its2:List Value}(r1:ba X.K H ds xs)(r2:ba X.K H es ys)(rv:aJ xs its)(rv2:aJ ys its2)(hn:eE ds≤n - 1):
 ∀ j (h1:j < its.toArray.size)(h2:j < its2.toArray.size),SeqAt.EqAt A.in1 s its.toArray[j] its2.toArray[j] (dX (ds.getD j .non) (es.getD j .non)):=by
 intro j h1 h2
 have e1:j < xs.length:=by rw [rv.length]; simpa using h1
 have e2:j < ys.length:=by rw [rv2.length]; simpa using h2
 obtain ⟨d1,m1⟩:=r1.get e1
 obtain ⟨d2,m2⟩:=r2.get e2
 obtain ⟨u,hu1,ru⟩:=rv.get (List.getElem?_eq_getElem e1)
 obtain ⟨v,hv1,rv'⟩:=rv2.get (List.getElem?_eq_getElem e2)
 have z1:its.toArray[j]=u:=by
  have:=List.getElem?_eq_some_iff.mp hu1
  obtain ⟨_,q⟩:=this
  simpa using q
 have z2:its2.toArray[j]=v:=by
  have:=List.getElem?_eq_some_iff.mp hv1
  obtain ⟨_,q⟩:=this
  simpa using q
 rw [z1,z2]
 exact ih hn0 A.in1 _ _ _ _ _ _ (Nat.le_trans (rX m1) hn) (by show A.units + 1 + (n - 1) < cLine; omega) d1 d2 ru rv'
theorem lD (I:Inv X pins σ H s)(n:Nat)(ih:n≠0->∀ (A:Around)(d e:D)(x y:V)(u v:Value),jl d≤n - 1->A.units + (n - 1) < cLine->aI X.K H d x->aI X.K H e y->aB x u->aB y v->SeqAt.EqAt A s u v (dX d e))
 (A:Around)(d e:D)(x y:V)(u v:Value)(hn:jl d≤n)(hu:A.units + n < cLine)(h1:aI X.K H d x)(h2:aI X.K H e y)(rx:aB x u)(ry:aB y v):
 SeqAt.RcAt A s u v (dX d e)∧SeqAt.EqAt A s u v (dX d e)∧SeqAt.RcNeAt A s u v (!dX d e):=by
 have hu0:A.units < cLine:=by omega
 cases d with
 | non =>
   unfold aI at h1
   subst h1
   cases rx
   cases e with
   | non =>
     unfold aI at h2
     subst h2
     cases ry
     exact ⟨.none_none,.same _,.none_none⟩
   | bl q =>
     unfold aI at h2
     subst h2
     cases ry
     exact ⟨.none_bool q,.none_bool q,.none_bool q⟩
   | int q =>
     unfold aI at h2
     subst h2
     obtain ⟨tq,rfl⟩:=ry
     exact ⟨.none_int q tq,.none_int q tq,.none_int q tq⟩
   | str q =>
     unfold aI at h2
     subst h2
     obtain ⟨tq,rfl⟩:=ry
     exact ⟨.none_str q tq,.none_str q tq,.none_str q tq⟩
   | lst es =>
     unfold aI at h2
     obtain ⟨b,ys,rfl,q2,r2⟩:=h2
     cases ry
     obtain ⟨its2,rv2,p2,_⟩:=I.list q2
     exact ⟨.none_list  p2.isList hu0,.none_list  p2.isList hu0,.none_list  p2.isList hu0⟩
   | tup es =>
     unfold aI at h2
     obtain ⟨b,ys,rfl,q2,r2⟩:=h2
     cases ry
     obtain ⟨its2,rv2,p2,_⟩:=I.tuple q2
     have p2:s.heap.IsTuple b its2.toArray:=p2
     exact ⟨.none_tuple  p2 hu0,.none_tuple  p2 hu0,.none_tuple  p2 hu0⟩
 | bl p =>
   unfold aI at h1
   subst h1
   cases rx
   cases e with
   | non =>
     unfold aI at h2
     subst h2
     cases ry
     exact ⟨.bool_none p,.bool_none p,.bool_none p⟩
   | bl q =>
     unfold aI at h2
     subst h2
     cases ry
     unfold dX
     exact ⟨.bool_bool p q,.bool_bool p q,.bool_bool p q⟩
   | int q =>
     unfold aI at h2
     subst h2
     obtain ⟨tq,rfl⟩:=ry
     unfold dX
     exact ⟨.bool_int p q tq,.bool_int p q tq,.bool_int p q tq⟩
   | str q =>
     unfold aI at h2
     subst h2
     obtain ⟨tq,rfl⟩:=ry
     exact ⟨.bool_str p q tq,.bool_str p q tq,.bool_str p q tq⟩
   | lst es =>
     unfold aI at h2
     obtain ⟨b,ys,rfl,q2,r2⟩:=h2
     cases ry
     obtain ⟨its2,rv2,p2,_⟩:=I.list q2
     exact ⟨.bool_list p p2.isList hu0,.bool_list p p2.isList hu0,.bool_list p p2.isList hu0⟩
   | tup es =>
     unfold aI at h2
     obtain ⟨b,ys,rfl,q2,r2⟩:=h2
     cases ry
     obtain ⟨its2,rv2,p2,_⟩:=I.tuple q2
     have p2:s.heap.IsTuple b its2.toArray:=p2
     exact ⟨.bool_tuple p p2 hu0,.bool_tuple p p2 hu0,.bool_tuple p p2 hu0⟩
 | int p =>
   unfold aI at h1
   subst h1
   obtain ⟨tp,rfl⟩:=rx
   cases e with
   | non =>
     unfold aI at h2
     subst h2
     cases ry
     exact ⟨.int_none p tp,.int_none p tp,.int_none p tp⟩
   | bl q =>
     unfold aI at h2
     subst h2
     cases ry
     unfold dX
     exact ⟨.int_bool p tp q,.int_bool p tp q,.int_bool p tp q⟩
   | int q =>
     unfold aI at h2
     subst h2
     obtain ⟨tq,rfl⟩:=ry
     unfold dX
     exact ⟨.int_int p tp q tq,.int_int p tp q tq,.int_int p tp q tq⟩
   | str q =>
     unfold aI at h2
     subst h2
     obtain ⟨tq,rfl⟩:=ry
     exact ⟨.int_str p tp q tq,.int_str p tp q tq,.int_str p tp q tq⟩
   | lst es =>
     unfold aI at h2
     obtain ⟨b,ys,rfl,q2,r2⟩:=h2
     cases ry
     obtain ⟨its2,rv2,p2,_⟩:=I.list q2
     exact ⟨.int_list p tp p2.isList hu0,.int_list p tp p2.isList hu0,.int_list p tp p2.isList hu0⟩
   | tup es =>
     unfold aI at h2
     obtain ⟨b,ys,rfl,q2,r2⟩:=h2
     cases ry
     obtain ⟨its2,rv2,p2,_⟩:=I.tuple q2
     have p2:s.heap.IsTuple b its2.toArray:=p2
     exact ⟨.int_tuple p tp p2 hu0,.int_tuple p tp p2 hu0,.int_tuple p tp p2 hu0⟩
 | str p =>
   unfold aI at h1
   subst h1
   obtain ⟨tp,rfl⟩:=rx
   cases e with
   | non =>
     unfold aI at h2
     subst h2
     cases ry
     exact ⟨.str_none p tp,.str_none p tp,.str_none p tp⟩
   | bl q =>
     unfold aI at h2
     subst h2
     cases ry
     exact ⟨.str_bool p tp q,.str_bool p tp q,.str_bool p tp q⟩
   | int q =>
     unfold aI at h2
     subst h2
     obtain ⟨tq,rfl⟩:=ry
     exact ⟨.str_int p tp q tq,.str_int p tp q tq,.str_int p tp q tq⟩
   | str q =>
     unfold aI at h2
     subst h2
     obtain ⟨tq,rfl⟩:=ry
     unfold dX
     exact ⟨.str_str p tp q tq,.str_str p tp q tq,.str_str p tp q tq⟩
   | lst es =>
     unfold aI at h2
     obtain ⟨b,ys,rfl,q2,r2⟩:=h2
     cases ry
     obtain ⟨its2,rv2,p2,_⟩:=I.list q2
     exact ⟨.str_list p tp p2.isList hu0,.str_list p tp p2.isList hu0,.str_list p tp p2.isList hu0⟩
   | tup es =>
     unfold aI at h2
     obtain ⟨b,ys,rfl,q2,r2⟩:=h2
     cases ry
     obtain ⟨its2,rv2,p2,_⟩:=I.tuple q2
     have p2:s.heap.IsTuple b its2.toArray:=p2
     exact ⟨.str_tuple p tp p2 hu0,.str_tuple p tp p2 hu0,.str_tuple p tp p2 hu0⟩
 | lst ds =>
   unfold aI at h1
   obtain ⟨a,xs,rfl,q1,r1⟩:=id h1
   cases rx
   obtain ⟨its,rv,p1,_⟩:=I.list q1
   have p1:s.heap.IsList a its.toArray:=p1.isList
   cases e with
   | non =>
     unfold aI at h2
     subst h2
     cases ry
     exact ⟨.list_none  p1 hu0,.list_none  p1 hu0,.list_none  p1 hu0⟩
   | bl q =>
     unfold aI at h2
     subst h2
     cases ry
     exact ⟨.list_bool q p1 hu0,.list_bool q p1 hu0,.list_bool q p1 hu0⟩
   | int q =>
     unfold aI at h2
     subst h2
     obtain ⟨tq,rfl⟩:=ry
     exact ⟨.list_int q tq p1 hu0,.list_int q tq p1 hu0,.list_int q tq p1 hu0⟩
   | str q =>
     unfold aI at h2
     subst h2
     obtain ⟨tq,rfl⟩:=ry
     exact ⟨.list_str q tq p1 hu0,.list_str q tq p1 hu0,.list_str q tq p1 hu0⟩
   | lst es =>
     unfold aI at h2
     obtain ⟨b,ys,rfl,q2,r2⟩:=id h2
     cases ry
     obtain ⟨its2,rv2,p2,_⟩:=I.list q2
     have p2:s.heap.IsList b its2.toArray:=p2.isList
     have el:=jL I n ih (by unfold jl at hn; omega) A hu r1 r2 rv rv2 (by unfold jl at hn; omega)
     have l1:its.toArray.size=ds.length:=by rw [List.size_toArray,← rv.length,r1.len]
     have l2:its2.toArray.size=es.length:=by rw [List.size_toArray,← rv2.length,r2.len]
     have dr:=gC ds es
     have key:SeqAt.RcAt A s (.ref a) (.ref b) (dn ds es)∧SeqAt.RcNeAt A s (.ref a) (.ref b) (!dn ds es):=by
      by_cases hl:ds.length=es.length
      ·have hs:its.toArray.size=its2.toArray.size:=by rw [l1,l2,hl]
       have z:(List.range its.toArray.size).all (fun j=>dX (ds.getD j .non) (es.getD j .non))=dn ds es:=by rw [dr,l1,hl]; simp
       have c1:=SeqAt.RcAt.lists p1 p2 hs hu0 el
       have c2:=SeqAt.RcNeAt.lists p1 p2 hs hu0 el
       rw [z] at c1 c2
       exact ⟨c1,c2⟩
      ·have z:dn ds es=false:=by rw [dr]; simp [hl]
       have hs:(its.toArray.size != its2.toArray.size)=true:=by rw [l1,l2]; simpa using hl
       rw [z]
       exact ⟨SeqAt.RcAt.lists_lengths p1 p2 hs hu0,SeqAt.RcNeAt.lists_lengths p1 p2 hs hu0⟩
     have eqd:dX (.lst ds) (.lst es)=dn ds es:=by rw [dX]
     by_cases hab:a=b
     ·subst hab
      have z:=kf I (.lst ds) (.lst es) (.ref a) (by unfold aI; exact ⟨a,xs,rfl,q1,r1⟩) (by unfold aI; exact ⟨a,ys,rfl,q2,r2⟩)
      refine ⟨by rw [eqd]; exact key.1,by rw [z]; exact .same _,by rw [eqd]; exact key.2⟩
     ·rw [eqd]
      exact ⟨key.1,.of_refs hab key.1,key.2⟩
   | tup es =>
     unfold aI at h2
     obtain ⟨b,ys,rfl,q2,r2⟩:=id h2
     cases ry
     obtain ⟨its2,rv2,p2,_⟩:=I.tuple q2
     have p2:s.heap.IsTuple b its2.toArray:=p2
     exact ⟨.list_tuple p1 p2 hu0,.list_tuple p1 p2 hu0,.list_tuple p1 p2 hu0⟩
 | tup ds =>
   unfold aI at h1
   obtain ⟨a,xs,rfl,q1,r1⟩:=id h1
   cases rx
   obtain ⟨its,rv,p1,_⟩:=I.tuple q1
   have p1:s.heap.IsTuple a its.toArray:=p1
   cases e with
   | non =>
     unfold aI at h2
     subst h2
     cases ry
     exact ⟨.tuple_none  p1 hu0,.tuple_none  p1 hu0,.tuple_none  p1 hu0⟩
   | bl q =>
     unfold aI at h2
     subst h2
     cases ry
     exact ⟨.tuple_bool q p1 hu0,.tuple_bool q p1 hu0,.tuple_bool q p1 hu0⟩
   | int q =>
     unfold aI at h2
     subst h2
     obtain ⟨tq,rfl⟩:=ry
     exact ⟨.tuple_int q tq p1 hu0,.tuple_int q tq p1 hu0,.tuple_int q tq p1 hu0⟩
   | str q =>
     unfold aI at h2
     subst h2
     obtain ⟨tq,rfl⟩:=ry
     exact ⟨.tuple_str q tq p1 hu0,.tuple_str q tq p1 hu0,.tuple_str q tq p1 hu0⟩
   | lst es =>
     unfold aI at h2
     obtain ⟨b,ys,rfl,q2,r2⟩:=id h2
     cases ry
     obtain ⟨its2,rv2,p2,_⟩:=I.list q2
     have p2:s.heap.IsList b its2.toArray:=p2.isList
     exact ⟨.tuple_list p1 p2 hu0,.tuple_list p1 p2 hu0,.tuple_list p1 p2 hu0⟩
   | tup es =>
     unfold aI at h2
     obtain ⟨b,ys,rfl,q2,r2⟩:=id h2
     cases ry
     obtain ⟨its2,rv2,p2,_⟩:=I.tuple q2
     have p2:s.heap.IsTuple b its2.toArray:=p2
     have el:=jL I n ih (by unfold jl at hn; omega) A hu r1 r2 rv rv2 (by unfold jl at hn; omega)
     have l1:its.toArray.size=ds.length:=by rw [List.size_toArray,← rv.length,r1.len]
     have l2:its2.toArray.size=es.length:=by rw [List.size_toArray,← rv2.length,r2.len]
     have dr:=gC ds es
     have key:SeqAt.RcAt A s (.ref a) (.ref b) (dn ds es)∧SeqAt.RcNeAt A s (.ref a) (.ref b) (!dn ds es):=by
      have z:((List.range (min its.toArray.size its2.toArray.size)).all (fun j=>dX (ds.getD j .non) (es.getD j .non))&&its.toArray.size == its2.toArray.size)=dn ds es:=by rw [dr,l1,l2]
      have c1:=SeqAt.RcAt.tuples p1 p2 hu0 el
      have c2:=SeqAt.RcNeAt.tuples p1 p2 hu0 el
      rw [z] at c1 c2
      exact ⟨c1,c2⟩
     have eqd:dX (.tup ds) (.tup es)=dn ds es:=by rw [dX]
     by_cases hab:a=b
     ·subst hab
      have z:=kf I (.tup ds) (.tup es) (.ref a) (by unfold aI; exact ⟨a,xs,rfl,q1,r1⟩) (by unfold aI; exact ⟨a,ys,rfl,q2,r2⟩)
      refine ⟨by rw [eqd]; exact key.1,by rw [z]; exact .same _,by rw [eqd]; exact key.2⟩
     ·rw [eqd]
      exact ⟨key.1,.of_refs hab key.1,key.2⟩
theorem iA (I:Inv X pins σ H s):∀ (n:Nat)(A:Around)(d e:D)(x y:V)(u v:Value),jl d≤n->A.units + n < cLine->aI X.K H d x->aI X.K H e y->aB x u->aB y v →
 SeqAt.RcAt A s u v (dX d e)∧SeqAt.EqAt A s u v (dX d e)∧SeqAt.RcNeAt A s u v (!dX d e):=by
 intro n
 induction n with
 | zero=>exact fun A d e x y u v hn hu h1 h2 rx ry=>lD I 0 (fun z=>absurd z (by simp)) A d e x y u v hn hu h1 h2 rx ry
 | succ n ih=>exact fun A d e x y u v hn hu h1 h2 rx ry=>lD I (n + 1) (fun _ A d e x y u v hn hu h1 h2 rx ry=>(ih A d e x y u v hn hu h1 h2 rx ry).2.1) A d e x y u v hn hu h1 h2 rx ry
end
section
variable {X:Cx}
noncomputable def xR (K:Frag)(neg:Bool):R2:=fun x y H Q=>∃ d e,aI K H d x∧aI K H e y∧jl d≤32∧Q (.bl (dX d e != neg)) H
theorem zM {k:Nat}(hr:Room k X.A):eZ X (compareOp .Eq) (xR X.K false):=by
 intro pins s σ H x y v u Q I rx ry h
 obtain ⟨d,e,h1,h2,hd,q⟩:=h
 have z:=(iA I 32 X.A d e x y v u hd (by have:=hr.units; omega) h1 h2 rx ry).1
 exact z X.prog X.w X.xe _ ⟨.bl (dX d e),H,I,rfl,by simpa using q⟩
theorem iu {k:Nat}(hr:Room k X.A):eZ X (compareOp .NotEq) (xR X.K true):=by
 intro pins s σ H x y v u Q I rx ry h
 obtain ⟨d,e,h1,h2,hd,q⟩:=h
 have z:=(iA I 32 X.A d e x y v u hd (by have:=hr.units; omega) h1 h2 rx ry).2.2
 exact z X.prog X.w X.xe _ ⟨.bl (!dX d e),H,I,rfl,by
  have e1:(dX d e != true) = !dX d e:=by cases dX d e <;> rfl
  rw [e1] at q
  exact q⟩
end
end L2
namespace Nm
noncomputable def cS (a b:Int):Int:=(Int.gcd a b:Int)
noncomputable def dv (t b:Int):Int:=if b < 0 then -(cS t b) else cS t b
noncomputable def dG (t b:Int):Int:=t.fdiv (dv t b)
noncomputable def cD (t b:Int):Int:=b.fdiv (dv t b)
theorem d7 {t b:Int}(h:b≠0):0 < cS t b:=by
 unfold cS
 have:0 < Int.gcd t b:=Int.gcd_pos_of_ne_zero_right _ h
 omega
theorem lW {t b:Int}(h:b≠0):dv t b≠0:=by
 have:=d7 (t:=t) h
 unfold dv
 split <;> omega
theorem Cn {t b:Int}:dv t b ∣ t:=by
 unfold dv cS
 split
 ·exact Int.neg_dvd.mpr (Int.gcd_dvd_left ..)
 ·exact Int.gcd_dvd_left ..
theorem CH {t b:Int}:dv t b ∣ b:=by
 unfold dv cS
 split
 ·exact Int.neg_dvd.mpr (Int.gcd_dvd_right ..)
 ·exact Int.gcd_dvd_right ..
theorem pf {a b:Int}(h:b ∣ a)(hb:b≠0):a.fdiv b * b=a:=by
 obtain ⟨c,rfl⟩:=h
 rw [Int.mul_fdiv_cancel_left _ hb,Int.mul_comm]
theorem rY {t b:Int}(h:b≠0):dG t b * dv t b=t:=pf Cn (lW h)
theorem lZ {t b:Int}(h:b≠0):cD t b * dv t b=b:=pf CH (lW h)
theorem nM {t b:Int}(h:b≠0):0 < cD t b:=by
 have e:=lZ (t:=t) h
 have g:=d7 (t:=t) h
 by_cases hb:b < 0
 ·have hd:dv t b = -(cS t b):=by unfold dv; rw [if_pos hb]
  rw [hd] at e
  by_cases hl:0 < cD t b
  ·exact hl
  ·have:0≤cD t b * -(cS t b):=by
    have:=Int.mul_nonneg_of_nonpos_of_nonpos (a:=cD t b) (b:=-(cS t b)) (by omega) (by omega)
    exact this
   omega
 ·have hd:dv t b=cS t b:=by unfold dv; rw [if_neg hb]
  rw [hd] at e
  by_cases hl:0 < cD t b
  ·exact hl
  ·have:cD t b * cS t b≤0:=Int.mul_nonpos_of_nonpos_of_nonneg (by omega) (by omega)
   omega
theorem lQ {t b:Int}:(dv t b).natAbs=Int.gcd t b:=by
 unfold dv cS
 split <;> simp
theorem sw {t b:Int}(h:b≠0):Int.gcd (dG t b) (cD t b)=1:=by
 have e1:=rY (t:=t) h
 have e2:=lZ (t:=t) h
 have g:0 < Int.gcd t b:=Int.gcd_pos_of_ne_zero_right _ h
 have e3:Int.gcd (dG t b * dv t b) (cD t b * dv t b)=Int.gcd (dG t b) (cD t b) * (dv t b).natAbs:=Int.gcd_mul_right ..
 rw [e1,e2,lQ] at e3
 have:Int.gcd (dG t b) (cD t b) * Int.gcd t b=1 * Int.gcd t b:=by omega
 exact Nat.eq_of_mul_eq_mul_right g this
theorem pR {t b t' b':Int}(h:b≠0)(hp:0 < b')(hg:Int.gcd t' b'=1)(he:t * b'=t' * b):dG t b=t'∧cD t b=b':=by
 have e1:=rY (t:=t) h
 have e2:=lZ (t:=t) h
 have g:=lW (t:=t) h
 have lp:=nM (t:=t) h
 have lg:=sw (t:=t) h
 have e3:dG t b * b'=t' * cD t b:=by
  have z:(dG t b * b') * dv t b=(t' * cD t b) * dv t b:=by
   rw [Int.mul_right_comm,e1,he,Int.mul_assoc,e2]
  exact Int.eq_of_mul_eq_mul_right g z
 have n3:(dG t b).natAbs * b'.natAbs=t'.natAbs * (cD t b).natAbs:=by
  have:=congrArg Int.natAbs e3
  rw [Int.natAbs_mul,Int.natAbs_mul] at this
  exact this
 have c1:Nat.Coprime (cD t b).natAbs (dG t b).natAbs:=by
  rw [Nat.coprime_comm]
  exact lg
 have c2:Nat.Coprime b'.natAbs t'.natAbs:=by
  rw [Nat.coprime_comm]
  exact hg
 have d1:(cD t b).natAbs ∣ b'.natAbs:=c1.dvd_of_dvd_mul_left ⟨t'.natAbs,by rw [n3,Nat.mul_comm]⟩
 have d2:b'.natAbs ∣ (cD t b).natAbs:=c2.dvd_of_dvd_mul_left ⟨(dG t b).natAbs,by rw [← n3,Nat.mul_comm]⟩
 have e4:(cD t b).natAbs=b'.natAbs:=Nat.dvd_antisymm d1 d2
 have e5:cD t b=b':=by omega
 refine ⟨?_,e5⟩
 rw [e5] at e3
 exact Int.eq_of_mul_eq_mul_right (by omega) e3
theorem ka {t b:Int}(hp:0 < b)(hg:Int.gcd t b=1):dG t b=t∧cD t b=b:=pR (by omega) hp hg rfl
theorem kq (a b:Int):Int.gcd b (a.fmod b)=Int.gcd a b:=by
 rw [Int.fmod_def,Int.gcd_comm a b]
 first
  | exact Int.gcd_sub_mul_left_right ..
  | simp
theorem re (a b:Int)(h:b≠0):(a.fmod b).natAbs < b.natAbs:=by
 by_cases hb:0 < b
 ·have h1:=Int.fmod_lt_of_pos a hb
  have h2:=Int.fmod_nonneg_of_pos a hb
  omega
 ·have e:a.fmod b = -((-a).fmod (-b)):=by
   have:=Int.fmod_def a b
   rw [Int.neg_fmod_neg]
   omega
  have h1:=Int.fmod_lt_of_pos (-a) (b:=-b) (by omega)
  have h2:=Int.fmod_nonneg_of_pos (-a) (b:=-b) (by omega)
  omega
noncomputable def sg (b:Int):Int:=if b < 0 then -1 else 1
noncomputable def ab (b:Int):Int:=if b < 0 then -b else b
theorem ke (b:Int):ab b=(b.natAbs:Int):=by unfold ab; split <;> omega
theorem Bm {t b:Int}(h:b≠0):(sg b * t).fdiv (cS t b)=dG t b:=by
 have g:=d7 (t:=t) h
 have e:=rY (t:=t) h
 have z:sg b * t=dG t b * cS t b:=by
  unfold sg dv at *
  split
  ·rename_i hb
   rw [if_pos hb] at e
   have:dG t b * -cS t b = -(dG t b * cS t b):=by rw [Int.mul_neg]
   omega
  ·rename_i hb
   rw [if_neg hb] at e
   omega
 rw [z,Int.mul_fdiv_cancel _ (by omega)]
theorem Bz {t b:Int}(h:b≠0):(ab b).fdiv (cS t b)=cD t b:=by
 have g:=d7 (t:=t) h
 have e:=lZ (t:=t) h
 have z:ab b=cD t b * cS t b:=by
  unfold ab dv at *
  split
  ·rename_i hb
   rw [if_pos hb] at e
   have:cD t b * -cS t b = -(cD t b * cS t b):=by rw [Int.mul_neg]
   omega
  ·rename_i hb
   rw [if_neg hb] at e
   omega
 rw [z,Int.mul_fdiv_cancel _ (by omega)]
theorem zr (a b:Int):Int.gcd (ab a) (ab b)=Int.gcd a b:=by
 rw [ke,ke]
 simp [Int.gcd]
noncomputable def B (n:Nat)(i:Int):Prop:=i.natAbs < 2 ^ n
theorem B.mono {n m:Nat}{i:Int}(h:B n i)(hn:n≤m):B m i:=Nat.lt_of_lt_of_le h (Nat.pow_le_pow_right (by decide) hn)
theorem B.mul {n m:Nat}{i j:Int}(h:B n i)(k:B m j):B (n + m) (i * j):=by
 unfold B at *
 rw [Int.natAbs_mul,Nat.pow_add]
 exact Nat.mul_lt_mul'' h k
theorem B.add {n:Nat}{i j:Int}(h:B n i)(k:B n j):B (n + 1) (i + j):=by
 unfold B at *
 rw [Nat.pow_succ]
 have:=Int.natAbs_add_le i j
 omega
theorem B.le {n:Nat}{i j:Int}(h:B n i)(k:j.natAbs≤i.natAbs):B n j:=Nat.lt_of_le_of_lt k h
theorem qU {x d y:Int}(e:x * d=y)(hd:d≠0):x.natAbs≤y.natAbs:=by
 have:x.natAbs * d.natAbs=y.natAbs:=by rw [← Int.natAbs_mul,e]
 have h1:1≤d.natAbs:=by omega
 calc x.natAbs=x.natAbs * 1:=(Nat.mul_one _).symm
  _≤x.natAbs * d.natAbs:=Nat.mul_le_mul_left _ h1
  _=y.natAbs:=this
theorem si {t b:Int}(h:b≠0):(dG t b).natAbs≤t.natAbs:=qU (rY h) (lW h)
theorem rO {t b:Int}(h:b≠0):(cD t b).natAbs≤b.natAbs:=qU (lZ h) (lW h)
theorem yY {t b:Int}(h:b≠0):(dv t b).natAbs≤b.natAbs:=by
 have e:=lZ (t:=t) h
 have lp:=nM (t:=t) h
 exact qU (x:=dv t b) (d:=cD t b) (by rw [Int.mul_comm]; exact e) (by omega)
theorem Aq {t b:Int}(h:b≠0):(cS t b).natAbs≤b.natAbs:=by
 have e:=yY (t:=t) h
 rw [lQ] at e
 unfold cS
 simpa using e
structure Num (p t b:Int):Prop where
 pos:0 < b
 red:Int.gcd t b=1
 pr:p≠0->b=1∧0≤t∧t < p
theorem Num.ofP {p t:Int}(h0:0≤t)(h1:t < p):Num p t 1:=⟨by decide,by simp,fun _=>⟨rfl,h0,h1⟩⟩
theorem Num.low {t b:Int}(h:b≠0):Num 0 (dG t b) (cD t b):=⟨nM h,sw h,fun z=>absurd rfl z⟩
noncomputable def gJ (p t b:Int):Int:=if p=0 then dG t b else t % p
noncomputable def gI (p t b:Int):Int:=if p=0 then cD t b else 1
theorem Num.set {p t b:Int}(hp:0≤p)(h:b≠0):Num p (gJ p t b) (gI p t b):=by
 unfold gJ gI
 by_cases z:p=0
 ·subst z
  simp only [if_true]
  exact Num.low h
 ·simp only [z,if_false]
  exact Num.ofP (Int.emod_nonneg _ z) (Int.emod_lt_of_pos _ (by omega))
theorem Num.self {p t b:Int}(n:Num p t b)(hp:0≤p):gJ p t b=t∧gI p t b=b:=by
 unfold gJ gI
 by_cases z:p=0
 ·simp only [z,if_true]
  exact ka n.pos n.red
 ·simp only [z,if_false]
  obtain ⟨h1,h2,h3⟩:=n.pr z
  exact ⟨Int.emod_eq_of_lt h2 h3,h1.symm⟩
end Nm
namespace L2
open PySem PySem.Spec PyProof.Rows PySem.W
theorem y3 {i:Int}(h:Nm.B 9000 i):i.natAbs.log2 < 9000:=by
 by_cases z:i.natAbs=0
 ·rw [z]; decide
 ·exact (Nat.log2_lt z).mpr h
theorem u4 {i:Int}(h:Nm.B 9000 i):Builtin.Int.intBits i≤2 ^ 20:=by
 have l:=y3 h
 unfold Builtin.Int.intBits
 split
 ·exact Nat.zero_le _
 ·have:(9000:Nat)≤2 ^ 20:=by decide
  omega
section
variable {X:Cx}
theorem eB:eZ X (binaryOp .FloorDiv) (rI (fun _ j=>j≠0∧Nm.B 9000 j) fun i j=>.int (i.fdiv j)):=Ar fun _ _ _ _ _ _ _ hc q=>floordiv_int hc.1 q (.inl (PyProof.noPylong_of_log2 (y3 hc.2)))
theorem gb:eZ X (binaryOp .Mult) (rI (fun i j=>Nm.B 9000 i∧Nm.B 9000 j) fun i j=>.int (i * j)):=Ar fun _ _ _ _ _ _ _ hc q=>mul_int q (IntMulOk.of_bits (u4 hc.1) (u4 hc.2))
end
noncomputable def oF:List Expr->Option (List Int)
 | []=>some []
 | .Constant (.int i) _ _ :: es=>(oF es).map (i :: ·)
 | _=>none
noncomputable def A2 (ns:List Int):TA:=fun _ H Q=>Q (ns.map V.int) H
theorem rG {X:Cx}:∀ {es:List Expr}{ns:List Int},oF es=some ns->PA X es (A2 ns)
 | [],ns,h=>by
   cases h
   exact ad
 | .Constant (.int i) k p :: es,ns,h=>by
   unfold oF at h
   cases e:oF es with
   | none=>rw [e] at h; cases h
   | some ms =>
     rw [e] at h
     cases h
     exact ag (ah (j:=k) (pos:=p)) (rG e)
noncomputable def AU (ns:List Int):TE:=fun _ H Q=>∀ p,H p=none->Q (.ref p) (upd H p (.lst (ns.map V.int)))
theorem m7 {X:Cx}{es:List Expr}{pos:Pos}{ns:List Int}(h:oF es=some ns)(hl:ns.length≤1000):PE X (.List es pos) (AU ns):=by
 intro pins s σ H Q I q
 refine bq (rG h) pins s σ H Q I ?_
 refine ⟨?_,q⟩
 rw [List.length_map]
 exact Nat.le_of_lt (ub hl)
end L2
namespace K07
open PySem L2 PySem.W Nm
noncomputable abbrev Bw:Stmt:=(aY 35)
noncomputable abbrev tz:Stmt:=(aY 36)
noncomputable abbrev oR:Stmt:=(aY 37)
noncomputable def cj (t b:Int):HO:=.tup [.int t,.int b]
noncomputable def spGcd:Sp:=fun vs H Q _=>∃ a b:Int,vs=[.int a,.int b]∧Q (.int (cS a b)) H
noncomputable def spLowest:Sp:=fun vs H Q _=>∃ t b:Int,vs=[.int t,.int b]∧b≠0∧B 9000 b∧∀ p,H p=none->Q (.ref p) (upd H p (cj (dG t b) (cD t b)))
noncomputable def spInverse:Sp:=fun vs H Q _=>∃ m p:Int,vs=[.int m,.int p]∧p∈primes∧m % p≠0∧∀ v,0≤v->v < p->(v * m) % p=1->Q (.int v) H
theorem fZ {p:Int}(h:p∈primes):2≤p∧p≤97:=by
 have:∀ q∈primes,2≤q∧q≤97:=by decide
 exact this p h
theorem uP {p r:Int}(h:p∈primes)(h0:0 < r)(h1:r < p):Int.gcd p r=1:=by
 have key:∀ q∈primes,∀ k:_root_.Fin 98,0 < k.val->((k.val:Nat):Int) < q->Int.gcd q ((k.val:Nat):Int)=1:=by decide +kernel
 have hp:=fZ h
 have z:=key p h ⟨r.toNat,by omega⟩
 have e:((r.toNat:Nat):Int)=r:=by omega
 simp only [e] at z
 exact z (by omega) h1
section
variable {P:Program}{w:World}{K:PySem.W.Frag}{mg:Str->Option Value}{base:Heap}
theorem yU:FnScope ["one","other"] ["one","other"] (aj Bw):=⟨rfl,rfl,rfl,by decide +kernel,rfl,by decide +kernel,by decide +kernel⟩
theorem zH {f:Addr}{fd:FuncData}(F:Fun K "common_divisor" "common_divisor" Bw f fd)(mA:mg "abs"=none):FnOk P w K mg base (aU P w) 1 f fd ["one","other"] spGcd:=by
 refine F.okN yU (fun vs H Q E h=>?_) (fun cdv A outer s H vs Q E hr h=>?_)
 ·obtain ⟨a,b,rfl,_⟩:=h
  rfl
 ·obtain ⟨a,b,rfl,q⟩:=h
  refine ⟨_,ai (j8 PassesOwn.never (oU (pv 1) (fun _=>rfl)) (am (iR (i:=0) (j:=1) rfl yU.nd rfl rfl (by decide) rfl rfl (ag (pv 1) (ag (az rN (pv 0) (pv 1)) ad)) rfl)))
   (am (av (ar hU (by rfl) mA (by rfl) (ag (pv 0) ad)))),?_⟩
  refine ⟨fun m σ H'=>∃ c d:Int,σ=[some (.int c),some (.int d)]∧H'=H∧m=d.natAbs∧Int.gcd c d=Int.gcd a b,⟨_,a,b,rfl,rfl,rfl,rfl⟩,?_⟩
  rintro m σ H' ⟨c,d,rfl,rfl,rfl,hg⟩
  refine ⟨_,rfl,_,rfl,?_⟩
  refine b7 (fun h=>?_) (fun h=>?_)
  ·have hd:d≠0:=by simpa using h
   refine ⟨fun σ' H''=>∃ c' d':Int,σ'=[some (.int c'),some (.int d')]∧H''=H'∧d'.natAbs < d.natAbs∧Int.gcd c' d'=Int.gcd a b,fun σ' H'' ⟨c',d',e1,e2,e3,e4⟩=>⟨_,e3,c',d',e1,e2,rfl,e4⟩,?_⟩
   refine ⟨_,rfl,_,rfl,_,rfl,_,_,rfl,rfl,hd,_,_,rfl,d,c.fmod d,rfl,rfl,re c d hd,?_⟩
   rw [kq,hg]
  ·have hd:d=0:=by simpa using h
   subst hd
   refine ⟨_,rfl,c,rfl,?_⟩
   have e:(if c < 0 then -c else c)=cS a b:=by
    unfold cS
    rw [← hg]
    have:=ke c
    unfold ab at this
    rw [this]
    simp
   rw [e]
   exact q
theorem kg:FnScope ["top","bottom","divisor"] ["top","bottom"] (aj tz):=⟨rfl,rfl,rfl,by decide +kernel,rfl,by decide +kernel,by decide +kernel⟩
theorem uO {f fg:Addr}{fd fdg:FuncData}(F:Fun K "lowest" "lowest" tz f fd)(FG:FnOk P w K mg base (aU P w) 1 fg fdg ["one","other"] spGcd)(bG:L2.ax K fdg ["one","other"] [])(mG:mg "common_divisor"=some (.ref fg))(kG:keepIn K (.ref fg)=true):
 FnOk P w K mg base (aU P w) 2 f fd ["top","bottom"] spLowest:=by
 refine F.okN kg (fun vs H Q E h=>?_) (fun cdv A outer s H vs Q E hr h=>?_)
 ·obtain ⟨a,b,rfl,_⟩:=h
  rfl
 ·obtain ⟨t,b,rfl,hb,hB,q⟩:=h
  refine ⟨_,ai (a7 (aF cI (pv 1) ah (aG _)) (am (av (bH (ag (pv 0) (ag ah ad))))) aC)
   (ai (aK (i:=2) kg.nd rfl (Or.inl rfl) (aq FG hr (by rfl) mG kG bG .nil ae (ag (pv 0) (ag (pv 1) ad))))
   (ai (a7 (aF fM (pv 1) ah (aG _)) (am (aK (i:=2) kg.nd rfl (Or.inl rfl) (rZ nY (pv 2)))) aC)
   (am (av (bH (ag (az eB (pv 0) (pv 2)) (ag (az eB (pv 1) (pv 2)) ad))))))),?_⟩
  refine ⟨_,rfl,rfl,_,rfl,?_⟩
  refine b7 (fun h=>?_) (fun h=>?_)
  ·have e:b=1:=by simpa using h
   subst e
   have z:=ka (t:=t) (b:=1) (by decide) (by simp)
   refine ⟨_,rfl,(by show 2≤sizeLine; decide),fun p hp=>?_⟩
   have y:=q p hp
   rw [z.1,z.2] at y
   exact y
  ·refine ⟨_,rfl,_,rfl,t,b,rfl,?_⟩
   refine ⟨_,rfl,_,_,rfl,rfl,_,rfl,?_⟩
   have gp:=d7 (t:=t) hb
   have fin:∀ d:Int,d=dv t b->yx (cf (pJ (rI (fun _ j=>j≠0∧Nm.B 9000 j) fun i j=>V.int (i.fdiv j)) (c7 0) (c7 2)) (cf (pJ (rI (fun _ j=>j≠0∧Nm.B 9000 j) fun i j=>V.int (i.fdiv j)) (c7 1) (c7 2)) tNil)) [some (.int t),some (.int b),some (.int d)] H Q:=by
    intro d hd
    have hd0:d≠0:=by rw [hd]; exact lW hb
    have hdB:B 9000 d:=by rw [hd]; exact hB.le (yY hb)
    refine ⟨_,rfl,_,rfl,_,_,rfl,rfl,⟨hd0,hdB⟩,_,rfl,_,rfl,_,_,rfl,rfl,⟨hd0,hdB⟩,(by show 2≤sizeLine; decide),fun p hp=>?_⟩
    have y:=q p hp
    unfold dG cD at y
    rw [← hd] at y
    exact y
   refine b7 (fun h2=>?_) (fun h2=>?_)
   ·have e:b < 0:=by simpa using h2
    exact ⟨_,rfl,_,rfl,fin _ (by unfold dv; rw [if_pos e])⟩
   ·have e:¬ b < 0:=by simpa using h2
    exact fin _ (by unfold dv; rw [if_neg e])
end
section
variable {P:Program}{w:World}{K:PySem.W.Frag}{mg:Str->Option Value}{base:Heap}
structure Eu (m p r s l ls:Int):Prop where
 r0:0 < r
 rl:r < l
 lp:l≤p
 g:Int.gcd l r=1
 e1:∃ k,s * m - r=p * k
 e2:∃ k,ls * m - l=p * k
theorem Eu.step {m p r s l ls:Int}(h:Eu m p r s l ls)(h1:r≠1):Eu m p (l - l.fdiv r * r) (ls - l.fdiv r * s) r s∧(l - l.fdiv r * r).toNat < r.toNat:=by
 obtain ⟨r0,rl,lp,g,⟨k1,e1⟩,⟨k2,e2⟩⟩:=h
 have em:l - l.fdiv r * r=l.fmod r:=by rw [Int.fmod_def,Int.mul_comm]
 have a:=Int.fmod_lt_of_pos l r0
 have b:=Int.fmod_nonneg_of_pos l r0
 have gg:Int.gcd r (l.fmod r)=1:=by rw [kq,g]
 have nz:l.fmod r≠0:=by
  intro z
  rw [z] at gg
  simp at gg
  omega
 rw [em]
 refine ⟨⟨by omega,a,by omega,gg,⟨k2 - l.fdiv r * k1,?_⟩,⟨k1,e1⟩⟩,by omega⟩
 rw [← em]
 generalize l.fdiv r=q
 have:(ls - q * s) * m - (l - q * r)=(ls * m - l) - q * (s * m - r):=by
  rw [Int.sub_mul,Int.mul_sub,Int.mul_assoc]
  omega
 rw [this,e1,e2,Int.mul_sub,Int.mul_left_comm]
theorem Eu.fin {m p s l ls:Int}(h:Eu m p 1 s l ls)(hp:2≤p):0≤s % p∧s % p < p∧(s % p * m) % p=1:=by
 obtain ⟨_,_,_,_,⟨k1,e1⟩,_⟩:=h
 refine ⟨Int.emod_nonneg _ (by omega),Int.emod_lt_of_pos _ (by omega),?_⟩
 have e:s * m=p * k1 + 1:=by omega
 rw [Int.mul_emod,Int.emod_emod,← Int.mul_emod,e,Int.mul_add_emod_self_left]
 exact Int.emod_eq_of_lt (by omega) (by omega)
noncomputable abbrev NI:List Str:=["number","prime","rest","share","last","last_share","many"]
theorem dB:FnScope NI ["number","prime"] (aj oR):=⟨rfl,rfl,rfl,by decide +kernel,rfl,by decide +kernel,by decide +kernel⟩
theorem qR {f:Addr}{fd:FuncData}(F:Fun K "inverse" "inverse" oR f fd):FnOk P w K mg base (aU P w) 1 f fd ["number","prime"] spInverse:=by
 refine F.okN dB (fun vs H Q E h=>?_) (fun cdv A outer s H vs Q E hr h=>?_)
 ·obtain ⟨a,b,rfl,_⟩:=h
  rfl
 ·obtain ⟨m,p,rfl,hp,hm,q⟩:=h
  have hp2:=fZ hp
  refine ⟨_,ai (iR (i:=2) (j:=3) rfl dB.nd rfl rfl (by decide) rfl rfl (ag (az cM (pv 0) (pv 1)) (ag ah ad)) rfl)
   (ai (iR (i:=4) (j:=5) rfl dB.nd rfl rfl (by decide) rfl rfl (ag (pv 1) (ag ah ad)) rfl)
   (ai (j8 PassesOwn.never (aF iU (pv 2) ah (aG _))
    (ai (aK (i:=6) dB.nd rfl (Or.inl rfl) (az eB (pv 4) (pv 2)))
    (ai (iR (i:=4) (j:=2) rfl dB.nd rfl rfl (by decide) rfl rfl (ag (pv 2) (ag (az iD (pv 4) (az da (pv 6) (pv 2))) ad)) rfl)
    (am (iR (i:=5) (j:=3) rfl dB.nd rfl rfl (by decide) rfl rfl (ag (pv 3) (ag (az iD (pv 5) (az da (pv 6) (pv 3))) ad)) rfl)))))
   (am (av (az cM (pv 3) (pv 1)))))),?_⟩
  refine ⟨_,rfl,_,rfl,_,_,rfl,rfl,(by show (0:Int) < p; omega),_,_,rfl,?_⟩
  refine ⟨_,rfl,_,_,rfl,?_⟩
  have r0:0≤m % p:=Int.emod_nonneg _ (by omega)
  have r1:m % p < p:=Int.emod_lt_of_pos _ (by omega)
  have E0:Eu m p (m % p) 1 p 0:=by
   refine ⟨by omega,r1,Int.le_refl _,uP hp (by omega) r1,⟨m / p,?_⟩,⟨-1,by omega⟩⟩
   have:=Int.emod_add_mul_ediv m p
   omega
  refine ⟨fun n σ H'=>∃ (r s l ls:Int)(o:Option V),σ=[some (.int m),some (.int p),some (.int r),some (.int s),some (.int l),some (.int ls),o]∧H'=H∧n=r.toNat∧Eu m p r s l ls,⟨_,_,_,_,_,_,rfl,rfl,rfl,E0⟩,?_⟩
  rintro n σ H' ⟨r,s,l,ls,o,rfl,rfl,rfl,E⟩
  refine ⟨_,rfl,rfl,_,rfl,?_⟩
  refine b7 (fun h=>?_) (fun h=>?_)
  ·have hr1:r≠1:=by simpa using h
   obtain ⟨E',lt⟩:=E.step hr1
   have e0:=E.r0
   have e1:=E.rl
   have e2:=E.lp
   have q0:0≤l.fdiv r:=Int.fdiv_nonneg (by omega) (by omega)
   have q1:l.fdiv r≤l:=by
    rw [Int.fdiv_eq_ediv_of_nonneg _ (by omega)]
    exact Int.ediv_le_self _ (by omega)
   refine ⟨fun σ' H''=>∃ (r' s' l' ls':Int)(o:Option V),σ'=[some (.int m),some (.int p),some (.int r'),some (.int s'),some (.int l'),some (.int ls'),o]∧H''=H'∧r'.toNat < r.toNat∧Eu m p r' s' l' ls',fun σ' H'' ⟨r',s',l',ls',o',z1,z2,z3,z4⟩=>⟨_,z3,r',s',l',ls',o',z1,z2,rfl,z4⟩,?_⟩
   refine ⟨_,rfl,_,rfl,_,_,rfl,rfl,⟨by omega,?_⟩,?_⟩
   ·have:r.natAbs < 2 ^ 7:=by omega
    exact (show B 7 r from this).mono (by decide)
   ·refine ⟨_,rfl,_,rfl,_,rfl,_,rfl,_,_,rfl,rfl,.inl ⟨by omega,by omega⟩,_,_,rfl,rfl,_,_,rfl,?_⟩
    refine ⟨_,rfl,_,rfl,_,rfl,_,rfl,_,_,rfl,rfl,.inl ⟨by omega,by omega⟩,_,_,rfl,rfl,_,_,rfl,?_⟩
    exact ⟨_,_,_,_,_,rfl,rfl,lt,E'⟩
  ·have hr1:r=1:=by simpa using h
   subst hr1
   obtain ⟨f0,f1,f2⟩:=E.fin hp2.1
   exact ⟨_,rfl,_,rfl,_,_,rfl,rfl,(by show (0:Int) < p; omega),q _ f0 f1 f2⟩
end
end K07
namespace K07
open PySem L2 PySem.W
noncomputable abbrev wl:Stmt:=(aY 12)
noncomputable abbrev rE:Stmt:=(aY 43)
noncomputable abbrev vj:Stmt:=a9 (aY 38) 0
inductive Th (H:Hp):V->String->Prop where
 | non:Th H .non "NoneType"
 | bl (b:Bool):Th H (.bl b) "bool"
 | int (i:Int):Th H (.int i) "int"
 | str (x:Str):Th H (.str x) "str"
 | lst {a:Addr}{xs:List V}(e:H a=some (.lst xs)):Th H (.ref a) "list"
 | tup {a:Addr}{xs:List V}(e:H a=some (.tup xs)):Th H (.ref a) "tuple"
 | dK {a:Addr}{kvs:List (Key × V)}(e:H a=some (.dK kvs)):Th H (.ref a) "dict"
theorem Th.ty {K:Frag}{H:Hp}{x:V}{T:String}(h:Th H x T):TyX K H x (.type T):=by
 cases h with
 | non=>exact .of .non
 | bl b=>exact .of (.bl b)
 | int i=>exact .of (.int i)
 | str x=>exact .of (.str x)
 | lst e=>exact .of (.lst e)
 | tup e=>exact .of (.tup e)
 | dK e=>exact .of (.dK e)
noncomputable def cB:V->Bool
 | .int _=>true
 | _=>false
noncomputable def AZ:V->Bool
 | .int _=>true
 | .bl _=>true
 | _=>false
theorem Th.isInt {K:Frag}{H:Hp}{x:V}{T:String}(h:Th H x T):kitOne K (.type T) (.type "int")=some (AZ x):=by cases h <;> rfl
theorem Th.isBool {K:Frag}{H:Hp}{x:V}{T:String}(h:Th H x T)(hi:AZ x=true):kitOne K (.type T) (.type "bool")=some (!cB x):=by
 cases h with
 | int i=>rfl
 | bl b=>rfl
 | _=>cases hi
noncomputable def spWhole:Sp:=fun vs H Q _=>∃ x T,vs=[x]∧Th H x T∧Q (.bl (cB x)) H
section
variable {P:Program}{w:World}{K:PySem.W.Frag}{mg:Str->Option Value}{base:Heap}
structure Nones (mg:Str->Option Value):Prop where
 isi:mg "isinstance"=none
 int:mg "int"=none
 bool:mg "bool"=none
theorem xA:FnScope ["thing"] ["thing"] (aj wl):=⟨rfl,rfl,rfl,by decide +kernel,rfl,by decide +kernel,by decide +kernel⟩
theorem vK {f:Addr}{fd:FuncData}(F:Fun K "is_whole" "is_whole" wl f fd)(n:Nones mg):FnOk P w K mg base (aU P w) 1 f fd ["thing"] spWhole:=by
 refine F.okN xA (fun vs H Q E h=>?_) (fun cdv A outer s H vs Q E hr h=>?_)
 ·obtain ⟨x,T,rfl,_⟩:=h
  rfl
 ·obtain ⟨x,T,rfl,th,q⟩:=h
  refine ⟨_,am (av (dL (ar aN (by rfl) n.isi (by rfl) (aR (pv 0) (aR (ck (by rfl) n.int (by rfl) (show aB (.ty "int") (.type "int") from rfl)) ad)))
   (eO (v3 (ar aN (by rfl) n.isi (by rfl) (aR (pv 0) (aR (ck (by rfl) n.bool (by rfl) (show aB (.ty "bool") (.type "bool") from rfl)) ad))))))),?_⟩
  refine ⟨_,rfl,x,.ty "int",_,_,_,rfl,rfl,th.ty,th.isInt,_,rfl,?_⟩
  refine b7 (fun hi=>?_) (fun hi=>?_)
  ·refine ⟨_,rfl,x,.ty "bool",_,_,_,rfl,rfl,th.ty,th.isBool hi,_,rfl,?_⟩
   simpa using q
  ·have e:cB x=false:=by
    cases th <;> first | rfl | exact absurd rfl hi
   rw [e] at q
   exact q
theorem wW:FnScope ["_law_thing"] ["_law_thing"] (aj rE):=⟨rfl,rfl,rfl,by decide +kernel,rfl,by decide +kernel,by decide +kernel⟩
theorem uM {f:Addr}{fd:FuncData}(F:Fun K "_law_whole" "_law_whole" rE f fd)(n:Nones mg):FnOk P w K mg base (aU P w) 1 f fd ["_law_thing"] spWhole:=by
 refine F.okN wW (fun vs H Q E h=>?_) (fun cdv A outer s H vs Q E hr h=>?_)
 ·obtain ⟨x,T,rfl,_⟩:=h
  rfl
 ·obtain ⟨x,T,rfl,th,q⟩:=h
  refine ⟨_,am (av (dL (ar aN (by rfl) n.isi (by rfl) (aR (pv 0) (aR (ck (by rfl) n.int (by rfl) (show aB (.ty "int") (.type "int") from rfl)) ad)))
   (eO (v3 (ar aN (by rfl) n.isi (by rfl) (aR (pv 0) (aR (ck (by rfl) n.bool (by rfl) (show aB (.ty "bool") (.type "bool") from rfl)) ad))))))),?_⟩
  refine ⟨_,rfl,x,.ty "int",_,_,_,rfl,rfl,th.ty,th.isInt,_,rfl,?_⟩
  refine b7 (fun hi=>?_) (fun hi=>?_)
  ·refine ⟨_,rfl,x,.ty "bool",_,_,_,rfl,rfl,th.ty,th.isBool hi,_,rfl,?_⟩
   simpa using q
  ·have e:cB x=false:=by
    cases th <;> first | rfl | exact absurd rfl hi
   rw [e] at q
   exact q
end
noncomputable def i7 (i:Int):Bool:=i == 0 || primes.any fun p=>p == i
noncomputable def good:V->Bool
 | .int i=>i7 i
 | _=>false
noncomputable def gu (i:Int):List (Str × V):=[("its_prime",.int i)]
noncomputable def wN (C NF:Addr):Sp:=fun vs H Q E=>∃ (p dx:Addr)(x:V)(T:String),vs=[.ref p,x]∧Th H x T∧H p=some (.ins C dx [])∧(good x=true->Q .non (upd H p (.ins C dx [("its_prime",x)])))∧(good x=false->E (.ref NF) none H)
structure FieldK (K:Frag)(mg:Str->Option Value)(C:Addr):Prop where
 cl:Cls K C
 nP:dM K C "its_prime"
 mgC:mg "Field"=some (.ref C)
 isC:((clsIn K C).isSome&&typeIn K (.ref C) == some (.type "type"))=true
 ca:findIn K (.ref C) "__class__"=some (some (.builtin "object.__class__"))
 sp:specialIn K (.builtin "object.__class__") "__get__"=some (some (.builtin "getset_descriptor.__get__"))
 tk:takesIn K (.builtin "object.__class__")=some true
 ob:mroIn K C (.type "object")=some true
theorem FieldK.ty {K:Frag}{mg:Str->Option Value}{C:Addr}(c:FieldK K mg C){H:Hp}{p dx:Addr}{fs:List (Str × V)}(e:H p=some (.ins C dx fs)):TyX K H (.ref p) (.ref C):=.of (.ins e c.cl c.ca c.sp c.tk c.ob)
theorem FieldK.is {K:Frag}{mg:Str->Option Value}{C:Addr}(c:FieldK K mg C):kitOne K (.ref C) (.ref C)=some true:=by
 unfold kitOne
 rw [if_pos (by simp)]
theorem FieldK.no {K:Frag}{mg:Str->Option Value}{C:Addr}(c:FieldK K mg C){H:Hp}{x:V}{T:String}(h:Th H x T):kitOne K (.type T) (.ref C)=some false:=by
 show (if (Value.type T == Value.ref C)=true then some true else (if ((clsIn K C).isSome&&typeIn K (.ref C) == some (.type "type"))=true then subIn K (.type T) (.ref C) else none))=some false
 rw [if_neg (by intro z; cases beq_iff_eq.mp z),if_pos c.isC]
 cases h <;> rfl
section
variable {P:Program}{w:World}{K:PySem.W.Frag}{mg:Str->Option Value}{base:Heap}
theorem jK (i:Int):AJ (.int i) (primes.map V.int)=primes.any fun p=>p == i:=by
 unfold AJ
 rw [List.any_map]
 rfl
theorem Ay:FnScope ["self","prime"] ["self","prime"] (aj vj):=⟨rfl,rfl,rfl,by decide +kernel,rfl,by decide +kernel,by decide +kernel⟩
theorem xO {f fw C NF aP T:Addr}{fd fdw:FuncData}{tF:Tok}(F:FunD K "__init__" "Field.__init__" vj f fd T)(c:FieldK K mg C)(FW:FnOk P w K mg base (aU P w) 1 fw fdw ["thing"] spWhole)(bW:ax K fdw ["thing"] [])(mW:mg "is_whole"=some (.ref fw))(kW:keepIn K (.ref fw)=true)
 (mF:mg "FRACTIONS"=some (.int 0 tF))(mP:mg "PRIMES"=some (.ref aP))(hP:∀ H:Hp,bc K H aP (primes.map V.int))(mN:mg "NoField"=some (.ref NF))(qN:excIn K NF xt mZ=true):FnOk P w K mg base (aU P w) 2 f fd ["self","prime"] (wN C NF):=by
 refine F.okE Ay (fun vs H Q E h=>?_) (fun cdv A outer s H vs Q E hr h=>?_)
 ·obtain ⟨p,dx,x,T,rfl,_⟩:=h
  rfl
 ·obtain ⟨p,dx,x,T,rfl,th,hp,hq,hE⟩:=h
  refine ⟨_,ai (a7 (PW.pt (dQ (bY (bw (aq FW hr (by rfl) mW kW bW .nil ae (aR (pv 1) ad))))
   (cN (PW.pt (vk (aF iU (pv 1) (di (by rfl) mF (show aB (.int 0) (.int 0 tF) from ⟨_,rfl⟩)) (aG _)) (r6 (aF nQ (pv 1) (di (by rfl) mP (show aB (.ref aP) (.ref aP) from rfl)) (by rfl))))))))
   (am (d8 PySem.F.excBase_ValueError qN rfl db (by rfl) mN (aR cn ad))) aC)
   (am (nh (pv 0) (pv 1) rfl)),?_⟩
  have fin:good x=true->∃ (a C' dx':Addr)(fs:List (Str × V)),V.ref p = .ref a∧H a=some (.ins C' dx' fs)∧Cls K C'∧dM K C' "its_prime"∧fs.length < 1000∧Q .non (upd H a (.ins C' dx' (dE "its_prime" x fs))):=fun g=>⟨p,C,dx,[],rfl,hp,c.cl,c.nP,by decide,hq g⟩
  refine ⟨_,rfl,x,T,rfl,th,_,rfl,?_⟩
  cases th with
  | int i =>
    refine bx ?_
    refine ⟨_,rfl,rfl,_,rfl,?_⟩
    refine b7 (fun h0=>?_) (fun h0=>?_)
    ·refine ⟨_,rfl,aP,_,rfl,.inr (hP _),rfl,rfl,_,rfl,?_⟩
     refine b7 (fun h1=>?_) (fun h1=>?_)
     ·refine ⟨by decide,hE ?_⟩
      have e1:¬ i=0:=by simpa using h0
      have e2:AJ (.int i) (primes.map V.int)=false:=by simpa using h1
      rw [jK] at e2
      show i7 i=false
      unfold i7
      rw [e2]
      simpa using e1
     ·have e2:AJ (.int i) (primes.map V.int)=true:=by simpa using h1
      rw [jK] at e2
      exact ⟨_,rfl,_,rfl,fin (by show i7 i=true; unfold i7; rw [e2]; simp)⟩
    ·have e1:i=0:=by simpa using h0
     exact bx ⟨_,rfl,_,rfl,fin (by show i7 i=true; rw [e1]; rfl)⟩
  | _=>exact br (br ⟨by decide,hE rfl⟩)
end
open Nm
noncomputable abbrev yV:Stmt:=a9 (aY 38) 5
noncomputable abbrev zi:Stmt:=a9 (aY 38) 6
noncomputable abbrev om:Stmt:=a9 (aY 38) 10
noncomputable def FP (p:Int):Prop:=p=0∨p∈primes
theorem FP.nn {p:Int}(h:FP p):0≤p:=by
 rcases h with h | h
 ·omega
 ·have:=fZ h; omega
theorem FP.two {p:Int}(h:FP p)(z:p≠0):p∈primes∧2≤p∧p≤97:=by
 rcases h with h | h
 ·exact absurd h z
 ·exact ⟨h,fZ h⟩
noncomputable def pO (C NN:Addr):Sp:=fun vs H Q E=>∃ (s dx:Addr)(p t b:Int),vs=[.ref s,.int t,.int b]∧H s=some (.ins C dx (gu p))∧FP p∧B 9000 b ∧
 (p=0->b=0->E (.ref NN) none H)∧(p=0->b≠0->∀ a,H a=none->Q (.ref a) (upd H a (cj (dG t b) (cD t b)))) ∧
 (p≠0->b % p=0->E (.ref NN) none H)∧(p≠0->b % p≠0->∀ v,0≤v->v < p->(v * b) % p=1->∀ a,H a=none->Q (.ref a) (upd H a (cj (t * v % p) 1)))
noncomputable def lV (C:Addr):Sp:=fun vs H Q _=>∃ (s dx:Addr)(p t b:Int),vs=[.ref s,.int t,.int b]∧H s=some (.ins C dx (gu p))∧FP p∧B 9000 b∧b≠0∧∀ a,H a=none->Q (.ref a) (upd H a (cj (gJ p t b) (gI p t b)))
noncomputable def wg (C:Addr)(g:Int->Int->Int->Int->Int):Sp:=fun vs H Q _=>∃ (s dx a1 a2:Addr)(p t1 b1 t2 b2:Int),vs=[.ref s,.ref a1,.ref a2]∧H s=some (.ins C dx (gu p))∧FP p∧H a1=some (cj t1 b1)∧H a2=some (cj t2 b2) ∧
 B 4000 t1∧B 4000 b1∧B 4000 t2∧B 4000 b2∧b1≠0∧b2≠0∧∀ a,H a=none->Q (.ref a) (upd H a (cj (gJ p (g t1 b1 t2 b2) (b1 * b2)) (gI p (g t1 b1 t2 b2) (b1 * b2))))
noncomputable def gP (t1 b1 t2 b2:Int):Int:=t1 * b2 + t2 * b1
section
variable {P:Program}{w:World}{K:PySem.W.Frag}{mg:Str->Option Value}{base:Heap}
theorem zK:FnScope ["self","top","bottom"] ["self","top","bottom"] (aj yV):=⟨rfl,rfl,rfl,by decide +kernel,rfl,by decide +kernel,by decide +kernel⟩
theorem yM {f C NN fl fv:Addr}{fd fdl fdv:FuncData}{tF:Tok}(F:Fun K "quotient" "Field.quotient" yV f fd)(c:FieldK K mg C)(mF:mg "FRACTIONS"=some (.int 0 tF))(mN:mg "NoNumber"=some (.ref NN))(qN:excIn K NN xt mZ=true)
 (FL:FnOk P w K mg base (aU P w) 2 fl fdl ["top","bottom"] spLowest)(bL:L2.ax K fdl ["top","bottom"] [])(mL:mg "lowest"=some (.ref fl))(kL:keepIn K (.ref fl)=true)
 (FV:FnOk P w K mg base (aU P w) 1 fv fdv ["number","prime"] spInverse)(bV:L2.ax K fdv ["number","prime"] [])(mV:mg "inverse"=some (.ref fv))(kV:keepIn K (.ref fv)=true):
 FnOk P w K mg base (aU P w) 3 f fd ["self","top","bottom"] (pO C NN):=by
 refine F.okE zK (fun vs H Q E h=>?_) (fun cdv A outer s H vs Q E hr h=>?_)
 ·obtain ⟨s,dx,p,t,b,rfl,_⟩:=h
  rfl
 ·obtain ⟨s,dx,p,t,b,rfl,hs,hp,hB,q1,q2,q3,q4⟩:=h
  have hr1:Room 1 _:=hr.mono (by decide)
  refine ⟨_,ai (a7 (aF cI (cp (pv 0) rfl) (di (by rfl) mF (show aB (.int 0) (.int 0 tF) from ⟨_,rfl⟩)) (aG _))
   (ai (a7 (aF cI (pv 2) ah (aG _)) (am (d8 PySem.F.excBase_ValueError qN rfl db (by rfl) mN (ag cn ad))) aC)
   (am (av (aq FL hr (by rfl) mL kL bL .nil ae (ag (pv 1) (ag (pv 2) ad)))))) aC)
   (ai (a7 (aF cI (az cM (pv 2) (cp (pv 0) rfl)) ah (aG _)) (am (d8 PySem.F.excBase_ValueError qN rfl db (by rfl) mN (ag cn ad))) aC)
   (am (av (bH (ag (az cM (az da (pv 1) (aq FV hr1 (by rfl) mV kV bV .nil ae (ag (pv 2) (ag (cp (pv 0) rfl) ad)))) (cp (pv 0) rfl)) (ag ah ad)))))),?_⟩
  refine ⟨_,rfl,s,C,dx,_,_,rfl,hs,c.cl,c.nP,rfl,rfl,_,rfl,?_⟩
  refine b7 (fun h=>?_) (fun h=>?_)
  ·have hp0:p=0:=by simpa using h
   refine ⟨_,rfl,rfl,_,rfl,?_⟩
   refine b7 (fun h2=>?_) (fun h2=>?_)
   ·have hb:b=0:=by simpa using h2
    exact ⟨by decide,q1 hp0 hb⟩
   ·have hb:b≠0:=by simpa using h2
    exact ⟨_,rfl,_,rfl,t,b,rfl,hb,hB,q2 hp0 hb⟩
  ·have hp0:p≠0:=by simpa using h
   obtain ⟨hpp,p2,p97⟩:=hp.two hp0
   refine ⟨_,rfl,_,rfl,s,C,dx,_,_,rfl,hs,c.cl,c.nP,rfl,_,_,rfl,rfl,(by show (0:Int) < p; omega),rfl,_,rfl,?_⟩
   refine b7 (fun h2=>?_) (fun h2=>?_)
   ·have hb:b % p=0:=by simpa using h2
    exact ⟨by decide,q3 hp0 hb⟩
   ·have hb:b % p≠0:=by simpa using h2
    refine ⟨_,rfl,_,rfl,_,rfl,s,C,dx,_,_,rfl,hs,c.cl,c.nP,rfl,b,p,rfl,hpp,hb,fun v v0 v1 v2=>?_⟩
    refine ⟨_,_,rfl,rfl,.inr ⟨by omega,by omega⟩,_,rfl,s,C,dx,_,_,rfl,hs,c.cl,c.nP,rfl,_,_,rfl,rfl,(by show (0:Int) < p; omega),(by show 2≤sizeLine; decide),fun a ha=>q4 hp0 hb v v0 v1 v2 a ha⟩
theorem tR:FnScope ["self","top","bottom"] ["self","top","bottom"] (aj om):=⟨rfl,rfl,rfl,by decide +kernel,rfl,by decide +kernel,by decide +kernel⟩
theorem qH {f C fl:Addr}{fd fdl:FuncData}{tF:Tok}(F:Fun K "settled" "Field.settled" om f fd)(c:FieldK K mg C)(mF:mg "FRACTIONS"=some (.int 0 tF))
 (FL:FnOk P w K mg base (aU P w) 2 fl fdl ["top","bottom"] spLowest)(bL:L2.ax K fdl ["top","bottom"] [])(mL:mg "lowest"=some (.ref fl))(kL:keepIn K (.ref fl)=true):
 FnOk P w K mg base (aU P w) 3 f fd ["self","top","bottom"] (lV C):=by
 refine F.okN tR (fun vs H Q E h=>?_) (fun cdv A outer s H vs Q E hr h=>?_)
 ·obtain ⟨s,dx,p,t,b,rfl,_⟩:=h
  rfl
 ·obtain ⟨s,dx,p,t,b,rfl,hs,hp,hB,hb,q⟩:=h
  refine ⟨_,ai (a7 (aF cI (cp (pv 0) rfl) (di (by rfl) mF (show aB (.int 0) (.int 0 tF) from ⟨_,rfl⟩)) (aG _))
   (am (av (aq FL hr (by rfl) mL kL bL .nil ae (ag (pv 1) (ag (pv 2) ad))))) aC)
   (am (av (bH (ag (az cM (pv 1) (cp (pv 0) rfl)) (ag ah ad))))),?_⟩
  refine ⟨_,rfl,s,C,dx,_,_,rfl,hs,c.cl,c.nP,rfl,rfl,_,rfl,?_⟩
  refine b7 (fun h=>?_) (fun h=>?_)
  ·have hp0:p=0:=by simpa using h
   refine ⟨_,rfl,_,rfl,t,b,rfl,hb,hB,fun a ha=>?_⟩
   have y:=q a ha
   unfold gJ gI at y
   rw [if_pos hp0,if_pos hp0] at y
   exact y
  ·have hp0:p≠0:=by simpa using h
   obtain ⟨hpp,p2,p97⟩:=hp.two hp0
   refine ⟨_,rfl,_,rfl,s,C,dx,_,_,rfl,hs,c.cl,c.nP,rfl,_,_,rfl,rfl,(by show (0:Int) < p; omega),(by show 2≤sizeLine; decide),fun a ha=>?_⟩
   have y:=q a ha
   unfold gJ gI at y
   rw [if_neg hp0,if_neg hp0] at y
   exact y
end
section
variable {P:Program}{w:World}{K:PySem.W.Frag}{mg:Str->Option Value}{base:Heap}
theorem a0 (x y:V):mj [x,y] 0=some x:=rfl
theorem a1 (x y:V):mj [x,y] 1=some y:=rfl
theorem zD:FnScope ["self","one","other"] ["self","one","other"] (aj zi):=⟨rfl,rfl,rfl,by decide +kernel,rfl,by decide +kernel,by decide +kernel⟩
theorem wT {a b:Int}(h:a≠0)(k:b≠0):a * b≠0:=Int.mul_ne_zero h k
theorem yD {f C fs:Addr}{fd fds:FuncData}(F:Fun K "plus" "Field.plus" zi f fd)(c:FieldK K mg C)(FS:FnOk P w K mg base (aU P w) 3 fs fds ["self","top","bottom"] (lV C))(bS:L2.ax K fds ["self","top","bottom"] [])(mS:L2.Meth K C "settled" fs):
 FnOk P w K mg base (aU P w) 4 f fd ["self","one","other"] (wg C gP):=by
 refine F.okN zD (fun vs H Q E h=>?_) (fun cdv A outer s H vs Q E hr h=>?_)
 ·obtain ⟨s,dx,a1,a2,p,t1,b1,t2,b2,rfl,_⟩:=h
  rfl
 ·obtain ⟨s,dx,x1,x2,p,t1,b1,t2,b2,rfl,hs,hp,h1,h2,B1,B2,B3,B4,n1,n2,q⟩:=h
  refine ⟨_,am (av (dk (pv 0) c.cl mS FS hr bS .nil ae (ag (az cr (az gb (aW cb (pv 1) ah (fun _ _=>rfl)) (aW cb (pv 2) ah (fun _ _=>rfl))) (az gb (aW cb (pv 2) ah (fun _ _=>rfl)) (aW cb (pv 1) ah (fun _ _=>rfl)))) (ag (az gb (aW cb (pv 1) ah (fun _ _=>rfl)) (aW cb (pv 2) ah (fun _ _=>rfl))) ad)))),?_⟩
  refine ⟨_,rfl,s,dx,_,rfl,hs,rfl,?_⟩
  refine ⟨_,rfl,x1,_,0,_,rfl,rfl,bc.of h1,a0 _ _,_,rfl,x2,_,1,_,rfl,rfl,bc.of h2,a1 _ _,_,_,rfl,rfl,⟨B1.mono (by decide),B4.mono (by decide)⟩,?_⟩
  refine ⟨_,rfl,x2,_,0,_,rfl,rfl,bc.of h2,a0 _ _,_,rfl,x1,_,1,_,rfl,rfl,bc.of h1,a1 _ _,_,_,rfl,rfl,⟨B3.mono (by decide),B2.mono (by decide)⟩,_,_,rfl,rfl,?_⟩
  refine ⟨_,rfl,x1,_,1,_,rfl,rfl,bc.of h1,a1 _ _,_,rfl,x2,_,1,_,rfl,rfl,bc.of h2,a1 _ _,_,_,rfl,rfl,⟨B2.mono (by decide),B4.mono (by decide)⟩,?_⟩
  exact ⟨s,dx,p,_,_,rfl,hs,hp,(B2.mul B4).mono (by decide),wT n1 n2,q⟩
end
noncomputable abbrev zd:Stmt:=(aY 40)
noncomputable abbrev y8:Stmt:=(aY 41)
noncomputable abbrev za:Stmt:=(aY 42)
noncomputable abbrev zh:Stmt:=(aY 44)
noncomputable abbrev vQ:Stmt:=(aY 45)
theorem ak {H:Hp}{a:Addr}{o:HO}(h:H a=none):au H (upd H a o):=fun b u e=>by rw [al (ap e h)]; exact e
noncomputable def ve (K:PySem.W.Frag):Sp:=fun vs H Q _=>∃ (a:Addr)(ns:List Int)(k:Int),vs=[.ref a,.int k]∧aO K H a (ns.map V.int)∧ns.length≤63∧0≤k∧k≤63 ∧
 ∀ (p:Addr)(l r:Int),H p=none->0≤r->r < 2147483647->Q (.ref p) (upd H p (.lst [.int l,.int r]))
noncomputable def spTake:Sp:=fun vs H Q _=>∃ (p:Addr)(l r m:Int),vs=[.ref p,.int m]∧H p=some (.lst [.int l,.int r])∧0≤r∧r < 2147483647∧0 < m∧m < 18446744073709551616 ∧
 ∀ (z l' r':Int),0≤z->z < m->0≤r'->r' < 2147483647->Q (.int z) (upd H p (.lst [.int l',.int r']))
section
variable {P:Program}{w:World}{K:PySem.W.Frag}{mg:Str->Option Value}{base:Heap}
theorem gY {H:Hp}{Q:VK}{k l c:Int}{x:Option V}(hk0:0≤k)(hk1:k≤63)(q:∀ (p:Addr)(l r:Int),H p=none->0≤r->r < 2147483647->Q (.ref p) (upd H p (.lst [.int l,.int r]))):
 zP (cf (c7 3) (cf (pJ (rI (fun _ j=>0 < j) fun i j=>.int (i % j)) (pJ (rI tU fun i j=>.int (i * j)) (pJ (wq fun i j=>.int (i + j)) (pJ (wq fun i j=>.int (i + j)) (pJ (rI (fun _ j=>0 < j) fun i j=>.int (i % j)) (c7 2) (tC (.int 2147483629)))
  (pJ (rI tU fun i j=>.int (i * j)) (pJ (rI tU fun i j=>.int (i * j)) (tC (.int 104729)) (c7 1)) (c7 1))) (tC (.int 7))) (tC (.int 48271))) (tC (.int 2147483647))) tNil)) [x,some (.int k),some (.int c),some (.int l)] H Q:=by
 have h1:(0:Int)≤104729 * k:=by omega
 have h2:104729 * k≤6597927:=by omega
 refine ⟨_,rfl,_,rfl,_,_,rfl,rfl,(by show (0:Int) < 2147483629; decide),_,rfl,_,_,rfl,rfl,.inl ⟨by decide,by decide⟩,_,rfl,_,_,rfl,rfl,.inl ⟨by omega,by omega⟩,_,_,rfl,rfl,_,_,rfl,rfl,_,_,rfl,rfl,.inr ⟨by decide,by decide⟩,_,_,rfl,rfl,(by show (0:Int) < 2147483647; decide),(by show 2≤sizeLine; decide),fun p hp=>?_⟩
 exact q p _ _ hp (Int.emod_nonneg _ (by decide)) (Int.emod_lt_of_pos _ (by decide))
theorem j5:FnScope ["_law_script","_law_k","_law_cell","_law_left"] ["_law_script","_law_k"] (aj zd):=⟨rfl,rfl,rfl,by decide +kernel,rfl,by decide +kernel,by decide +kernel⟩
theorem xx {f:Addr}{fd:FuncData}(F:Fun K "_law_room" "_law_room" zd f fd)(hlen:mg "len"=none):FnOk P w K mg base (aU P w) 1 f fd ["_law_script","_law_k"] (ve K):=by
 refine F.okN j5 (fun vs H Q E h=>?_) (fun cdv A outer s H vs Q E hr h=>?_)
 ·obtain ⟨a,ns,k,rfl,_⟩:=h
  rfl
 ·obtain ⟨a,ns,k,rfl,hS,hn,hk0,hk1,q⟩:=h
  refine ⟨_,ai (aK (i:=2) j5.nd rfl (Or.inl rfl) ah)
   (ai (a7 (aF fM (pv 1) (ar aQ (by rfl) hlen PySem.boot_len (aR (pv 0) ad)) (aG _))
    (am (aK (i:=2) j5.nd rfl (Or.inl rfl) (aW aZ (pv 0) (pv 1) (fun _ _=>rfl)))) aC)
   (ai (aK (i:=3) j5.nd rfl (Or.inl rfl) ah)
   (ai (a7 (aF y9 (pv 2) (az iC ah ah) (aG _)) (am (aK (i:=3) j5.nd rfl (Or.inl rfl) (pv 2))) aC)
   (am (av (bq (aR (pv 3) (aR
    (az cM (az da (az cr (az cr (az cM (pv 2) ah) (az da (az da ah (pv 1)) (pv 1))) ah) ah) ah) ad)))))))),?_⟩
  refine ⟨_,rfl,_,rfl,a,_,rfl,.inl hS,_,_,rfl,rfl,_,rfl,?_⟩
  refine b7 (fun h=>?_) (fun h=>?_)
  ·have hlt:k.toNat < ns.length:=by
    have h1:=of_decide_eq_true h
    rw [List.length_map] at h1
    omega
   obtain ⟨c,hc⟩:∃ c,mj (ns.map V.int) k=some (V.int c):=by
    refine ⟨ns[k.toNat],?_⟩
    have e:((k.toNat:Nat):Int)=k:=by omega
    have z:=gN (xs:=ns.map V.int) (j:=k.toNat) (v:=V.int ns[k.toNat]) (by rw [List.getElem?_map]; simp [hlt])
    rw [e] at z
    exact z
   refine ⟨_,rfl,_,rfl,a,_,k,_,rfl,rfl,hS,hc,?_⟩
   refine ⟨_,rfl,_,_,rfl,rfl,⟨by decide,by decide,by decide⟩,_,_,rfl,rfl,_,rfl,?_⟩
   refine b7 (fun h2=>?_) (fun h2=>?_)
   ·exact ⟨_,rfl,gY hk0 hk1 q⟩
   ·exact gY hk0 hk1 q
  ·refine ⟨_,rfl,_,_,rfl,rfl,⟨by decide,by decide,by decide⟩,_,_,rfl,rfl,_,rfl,?_⟩
   refine b7 (fun h2=>?_) (fun h2=>?_)
   ·exact ⟨_,rfl,gY hk0 hk1 q⟩
   ·exact gY hk0 hk1 q
theorem nR:FnScope ["_law_room_here","_law_many","_law_found"] ["_law_room_here","_law_many"] (aj y8):=⟨rfl,rfl,rfl,by decide +kernel,rfl,by decide +kernel,by decide +kernel⟩
theorem yp {f:Addr}{fd:FuncData}(F:Fun K "_law_take" "_law_take" y8 f fd):FnOk P w K mg base (aU P w) 1 f fd ["_law_room_here","_law_many"] spTake:=by
 refine F.okN nR (fun vs H Q E h=>?_) (fun cdv A outer s H vs Q E hr h=>?_)
 ·obtain ⟨p,l,r,m,rfl,_⟩:=h
  rfl
 ·obtain ⟨p,l,r,m,rfl,hp,hr0,hr1,hm0,hm1,q⟩:=h
  refine ⟨_,ai (a7 (aF vO (aW aZ (pv 0) ah (fun _ _=>rfl)) ah (aG _))
   (ai (aK (i:=2) nR.nd rfl (Or.inl rfl) (az cM (aW aZ (pv 0) ah (fun _ _=>rfl)) (pv 1)))
   (ai (m5 (az eB (aW aZ (pv 0) ah (fun _ _=>rfl)) (pv 1)) (pV (pv 0) ah jT))
   (am (av (pv 2))))) aC)
   (ai (m5 (az cM (az cr (az da (aW aZ (pv 0) ah (fun _ _=>rfl)) ah) ah) ah) (pV (pv 0) ah jT))
   (ai (aK (i:=2) nR.nd rfl (Or.inl rfl) (az yI (az cM (az da (aW aZ (pv 0) ah (fun _ _=>rfl)) (aW aZ (pv 0) ah (fun _ _=>rfl))) ah) ah))
   (ai (a7 (aF vO (pv 1) (az iC ah ah) (aG _))
    (ai (m5 (az cM (az cr (az da (aW aZ (pv 0) ah (fun _ _=>rfl)) ah) ah) ah) (pV (pv 0) ah jT))
    (am (aK (i:=2) nR.nd rfl (Or.inl rfl) (az cr (az da (pv 2) ah) (az cM (az da (aW aZ (pv 0) ah (fun _ _=>rfl)) (aW aZ (pv 0) ah (fun _ _=>rfl))) ah))))) aC)
   (am (av (az cM (pv 2) (pv 1))))))),?_⟩
  have i0:∀ x y:V,mj [x,y] 0=some x:=fun _ _=>rfl
  have i1:∀ x y:V,mj [x,y] 1=some y:=fun _ _=>rfl
  have n0:wQ [V.int l,V.int r].length 0=some 0:=rfl
  have n1:∀ x y:V,wQ [x,y].length 1=some 1:=fun _ _=>rfl
  refine ⟨_,rfl,p,_,0,_,rfl,rfl,aO.of hp,i0 _ _,_,_,rfl,rfl,_,rfl,?_⟩
  refine b7 (fun h=>?_) (fun h=>?_)
  ·refine ⟨_,rfl,p,_,0,_,rfl,rfl,aO.of hp,i0 _ _,_,rfl,_,_,rfl,rfl,hm0,?_⟩
   refine ⟨_,rfl,p,_,0,_,rfl,rfl,aO.of hp,i0 _ _,_,rfl,_,_,rfl,rfl,⟨by omega,(show B 64 m from (by show m.natAbs < 2 ^ 64; omega)).mono (by decide)⟩,_,rfl,p,_,0,0,rfl,rfl,hp,n0,?_⟩
   exact ⟨_,rfl,q _ _ _ (Int.emod_nonneg _ (by omega)) (Int.emod_lt_of_pos _ hm0) hr0 hr1⟩
  ·have e1:∀ t:Int,0≤t % 2147483647∧t % 2147483647 < 2147483647:=fun t=>⟨Int.emod_nonneg _ (by decide),Int.emod_lt_of_pos _ (by decide)⟩
   refine ⟨_,rfl,p,_,1,_,rfl,rfl,aO.of hp,i1 _ _,_,_,rfl,rfl,.inl ⟨by omega,by omega⟩,_,_,rfl,rfl,_,_,rfl,rfl,(by show (0:Int) < 2147483647; decide),_,rfl,p,_,1,1,rfl,rfl,hp,n1 _ _,?_⟩
   refine ⟨_,rfl,p,_,1,_,rfl,rfl,aO.of ac,i1 _ _,_,rfl,p,_,1,_,rfl,rfl,aO.of ac,i1 _ _,_,_,rfl,rfl,.inl ⟨by omega,by omega⟩,_,_,rfl,rfl,(by show (0:Int) < 2147483629; decide),_,_,rfl,rfl,⟨by decide,by decide⟩,?_⟩
   refine ⟨_,rfl,_,_,rfl,rfl,⟨by decide,by decide,by decide⟩,_,_,rfl,rfl,_,rfl,?_⟩
   refine b7 (fun h2=>?_) (fun h2=>?_)
   ·refine ⟨_,rfl,p,_,1,_,rfl,rfl,aO.of ac,i1 _ _,_,_,rfl,rfl,.inl ⟨by omega,by omega⟩,_,_,rfl,rfl,_,_,rfl,rfl,(by show (0:Int) < 2147483647; decide),_,rfl,p,_,1,1,rfl,rfl,ac,n1 _ _,?_⟩
    rw [rP]
    refine ⟨_,rfl,_,_,rfl,rfl,.inr ⟨by decide,by decide⟩,_,rfl,p,_,1,_,rfl,rfl,aO.of ac,i1 _ _,_,rfl,p,_,1,_,rfl,rfl,aO.of ac,i1 _ _,_,_,rfl,rfl,.inl ⟨by omega,by omega⟩,_,_,rfl,rfl,(by show (0:Int) < 2147483587; decide),_,_,rfl,rfl,?_⟩
    exact ⟨_,rfl,_,rfl,_,_,rfl,rfl,hm0,q _ _ _ (Int.emod_nonneg _ (by omega)) (Int.emod_lt_of_pos _ hm0) (e1 _).1 (e1 _).2⟩
   ·exact ⟨_,rfl,_,rfl,_,_,rfl,rfl,hm0,q _ _ _ (Int.emod_nonneg _ (by omega)) (Int.emod_lt_of_pos _ hm0) (e1 _).1 (e1 _).2⟩
end
noncomputable def AR (H:Hp)(Q:VK)(t b:Int):Prop:=∀ (H':Hp)(a:Addr),au H H'->H' a=some (cj t b)->Q (.ref a) H'
theorem AR.of {H H':Hp}{Q:VK}{t b:Int}(q:AR H Q t b)(S:au H H'):∀ a,H' a=none->Q (.ref a) (upd H' a (cj t b)):=fun a ha=>q _ a (S.trans (ak ha)) ac
noncomputable def spLLow:Sp:=fun vs H Q _=>∃ t b:Int,vs=[.int t,.int b]∧b≠0∧B 9000 b∧B 9000 t∧AR H Q (dG t b) (cD t b)
noncomputable def spMake:Sp:=fun vs H Q _=>∃ p t b:Int,vs=[.int p,.int t,.int b]∧FP p∧b≠0∧B 9000 b∧B 9000 t∧(p≠0->b=1)∧AR H Q (gJ p t b) (gI p t b)
noncomputable def qw (g:Int->Int->Int->Int->Int):Sp:=fun vs H Q _=>∃ (p t1 b1 t2 b2:Int)(a1 a2:Addr),vs=[.int p,.ref a1,.ref a2]∧FP p∧H a1=some (cj t1 b1)∧H a2=some (cj t2 b2)∧B 4000 t1∧B 4000 b1∧B 4000 t2∧B 4000 b2∧b1≠0∧b2≠0∧(p≠0->b1 * b2=1) ∧
 AR H Q (gJ p (g t1 b1 t2 b2) (b1 * b2)) (gI p (g t1 b1 t2 b2) (b1 * b2))
section
variable {P:Program}{w:World}{K:PySem.W.Frag}{mg:Str->Option Value}{base:Heap}
noncomputable abbrev BP:List Str:=["_law_top","_law_bottom","_law_one","_law_other","_law_sign"]
theorem jD:FnScope BP ["_law_top","_law_bottom"] (aj za):=⟨rfl,rfl,rfl,by decide +kernel,rfl,by decide +kernel,by decide +kernel⟩
theorem yZ (c:Int):(if c < 0 then -c else c)=ab c:=rfl
theorem xD {f:Addr}{fd:FuncData}(F:Fun K "_law_lowest" "_law_lowest" za f fd)(mA:mg "abs"=none)(mI:mg "int"=none):FnOk P w K mg base (aU P w) 1 f fd ["_law_top","_law_bottom"] spLLow:=by
 refine F.okN jD (fun vs H Q E h=>?_) (fun cdv A outer s H vs Q E hr h=>?_)
 ·obtain ⟨a,b,rfl,_⟩:=h
  rfl
 ·obtain ⟨t,b,rfl,hb,hB,hT,q⟩:=h
  refine ⟨_,ai (aK (i:=2) jD.nd rfl (Or.inl rfl) (ar hU (by rfl) mA (by rfl) (ag (pv 0) ad)))
   (ai (aK (i:=3) jD.nd rfl (Or.inl rfl) (ar hU (by rfl) mA (by rfl) (ag (pv 1) ad)))
   (ai (j8 PassesOwn.never (aF iU (pv 3) ah (aG _)) (am (iR (i:=2) (j:=3) rfl jD.nd rfl rfl (by decide) rfl rfl (ag (pv 3) (ag (az rN (pv 2) (pv 3)) ad)) rfl)))
   (ai (aK (i:=4) jD.nd rfl (Or.inl rfl) (aW aZ (bq (ag ah (ag (rZ nY ah) ad))) (b8 ip (by rfl) mI (by rfl) (ag (cX fM (pv 1) ah (aG _)) ad)) (fun _ _=>rfl)))
   (am (av (bH (ag (az eB (az da (pv 4) (pv 0)) (pv 2)) (ag (az eB (ar hU (by rfl) mA (by rfl) (ag (pv 1) ad)) (pv 2)) ad)))))))),?_⟩
  refine ⟨_,rfl,t,rfl,_,rfl,b,rfl,?_⟩
  rw [yZ,yZ]
  refine ⟨fun m σ H'=>∃ c d:Int,σ=[some (.int t),some (.int b),some (.int c),some (.int d),none]∧H'=H∧m=d.natAbs∧Int.gcd c d=Int.gcd t b∧0≤c∧0≤d,⟨_,ab t,ab b,rfl,rfl,rfl,zr t b,by rw [ke]; omega,by rw [ke]; omega⟩,?_⟩
  rintro m σ H' ⟨c,d,rfl,rfl,rfl,hg,hc0,hd0⟩
  refine ⟨_,rfl,rfl,_,rfl,?_⟩
  refine b7 (fun h=>?_) (fun h=>?_)
  ·have hd:d≠0:=by simpa using h
   refine ⟨fun σ' H''=>∃ c' d':Int,σ'=[some (.int t),some (.int b),some (.int c'),some (.int d'),none]∧H''=H'∧d'.natAbs < d.natAbs∧Int.gcd c' d'=Int.gcd t b∧0≤c'∧0≤d',fun σ' H'' ⟨c',d',e1,e2,e3,e4,e5,e6⟩=>⟨_,e3,c',d',e1,e2,rfl,e4,e5,e6⟩,?_⟩
   refine ⟨_,rfl,_,rfl,_,rfl,_,_,rfl,rfl,hd,_,_,rfl,d,c.fmod d,rfl,rfl,re c d hd,by rw [kq,hg],hd0,Int.fmod_nonneg_of_pos c (by omega)⟩
  ·have hd:d=0:=by simpa using h
   subst hd
   have eg:c=cS t b:=by
    unfold cS
    rw [← hg]
    simp
    omega
   have gp:=d7 (t:=t) hb
   have hgB:B 9000 (cS t b):=hB.le (Aq hb)
   subst eg
   refine ⟨_,rfl,(by show 2≤sizeLine; decide),fun z hz=>?_⟩
   have S:=ak (o:=.lst [V.int 1,V.int (-1)]) hz
   refine ⟨_,rfl,_,_,rfl,rfl,.inr ⟨_,rfl,?_⟩⟩
   have hat:mj [V.int 1,V.int (-1)] (if decide (b < 0)=true then 1 else 0)=some (.int (sg b)):=by
    unfold sg
    by_cases hb0:b < 0
    ·simp [hb0]; rfl
    ·simp [hb0]; rfl
   refine ⟨z,_,_,_,rfl,rfl,aO.of ac,hat,?_⟩
   have sg1:-1≤sg b∧sg b≤1:=by unfold sg; split <;> decide
   refine ⟨_,rfl,_,rfl,_,_,rfl,rfl,.inl ⟨by omega,by omega⟩,_,rfl,_,_,rfl,rfl,⟨by omega,hgB⟩,_,rfl,b,rfl,_,rfl,_,_,rfl,rfl,⟨by omega,hgB⟩,(by show 2≤sizeLine; decide),fun a ha=>?_⟩
   have y:=q.of S a ha
   rw [← Bm (t:=t) hb,← Bz (t:=t) hb] at y
   exact y
theorem As:FnScope ["_law_prime_here","_law_top","_law_bottom"] ["_law_prime_here","_law_top","_law_bottom"] (aj zh):=⟨rfl,rfl,rfl,by decide +kernel,rfl,by decide +kernel,by decide +kernel⟩
theorem xQ {f fl:Addr}{fd fdl:FuncData}(F:Fun K "_law_make" "_law_make" zh f fd)(FL:FnOk P w K mg base (aU P w) 1 fl fdl ["_law_top","_law_bottom"] spLLow)(bL:L2.ax K fdl ["_law_top","_law_bottom"] [])(mL:mg "_law_lowest"=some (.ref fl))(kL:keepIn K (.ref fl)=true):
 FnOk P w K mg base (aU P w) 2 f fd ["_law_prime_here","_law_top","_law_bottom"] spMake:=by
 refine F.okN As (fun vs H Q E h=>?_) (fun cdv A outer s H vs Q E hr h=>?_)
 ·obtain ⟨p,t,b,rfl,_⟩:=h
  rfl
 ·obtain ⟨p,t,b,rfl,hp,hb,hB,hT,h1,q⟩:=h
  refine ⟨_,ai (a7 (aF cI (pv 0) ah (aG _)) (am (av (aq FL hr (by rfl) mL kL bL .nil ae (ag (pv 1) (ag (pv 2) ad))))) aC)
   (ai (a7 (aF iU (az cM (pv 2) (pv 0)) ah (aG _)) tO aC)
   (am (av (bH (ag (az cM (pv 1) (pv 0)) (ag ah ad)))))),?_⟩
  refine ⟨_,rfl,rfl,_,rfl,?_⟩
  refine b7 (fun h=>?_) (fun h=>?_)
  ·have hp0:p=0:=by simpa using h
   unfold gJ gI at q
   rw [if_pos hp0,if_pos hp0] at q
   exact ⟨_,rfl,_,rfl,t,b,rfl,hb,hB,hT,q⟩
  ·have hp0:p≠0:=by simpa using h
   obtain ⟨hpp,p2,p97⟩:=hp.two hp0
   have hb1:=h1 hp0
   subst hb1
   refine ⟨_,rfl,_,rfl,_,_,rfl,rfl,(by show (0:Int) < p; omega),rfl,_,rfl,?_⟩
   have e1:(1:Int) % p=1:=Int.emod_eq_of_lt (by decide) (by omega)
   refine b7 (fun h=>absurd h (by simp [e1])) (fun _=>?_)
   unfold gJ gI at q
   rw [if_neg hp0,if_neg hp0] at q
   exact ⟨_,rfl,_,rfl,_,_,rfl,rfl,(by show (0:Int) < p; omega),(by show 2≤sizeLine; decide),q.of (au.refl _)⟩
theorem yO:FnScope ["_law_prime_here","_law_one","_law_other"] ["_law_prime_here","_law_one","_law_other"] (aj vQ):=⟨rfl,rfl,rfl,by decide +kernel,rfl,by decide +kernel,by decide +kernel⟩
theorem wE {f fl:Addr}{fd fdl:FuncData}(F:Fun K "_law_plus" "_law_plus" vQ f fd)(FL:FnOk P w K mg base (aU P w) 2 fl fdl ["_law_prime_here","_law_top","_law_bottom"] spMake)(bL:L2.ax K fdl ["_law_prime_here","_law_top","_law_bottom"] [])(mL:mg "_law_make"=some (.ref fl))(kL:keepIn K (.ref fl)=true):
 FnOk P w K mg base (aU P w) 3 f fd ["_law_prime_here","_law_one","_law_other"] (qw gP):=by
 refine F.okN yO (fun vs H Q E h=>?_) (fun cdv A outer s H vs Q E hr h=>?_)
 ·obtain ⟨p,t1,b1,t2,b2,x1,x2,rfl,_⟩:=h
  rfl
 ·obtain ⟨p,t1,b1,t2,b2,x1,x2,rfl,hp,h1,h2,B1,B2,B3,B4,n1,n2,hb,q⟩:=h
  refine ⟨_,am (av (aq FL hr (by rfl) mL kL bL .nil ae (ag (pv 0) (ag (az cr (az gb (aW cb (pv 1) ah (fun _ _=>rfl)) (aW cb (pv 2) ah (fun _ _=>rfl))) (az gb (aW cb (pv 2) ah (fun _ _=>rfl)) (aW cb (pv 1) ah (fun _ _=>rfl)))) (ag (az gb (aW cb (pv 1) ah (fun _ _=>rfl)) (aW cb (pv 2) ah (fun _ _=>rfl))) ad))))),?_⟩
  refine ⟨_,rfl,?_⟩
  refine ⟨_,rfl,x1,_,0,_,rfl,rfl,bc.of h1,a0 _ _,_,rfl,x2,_,1,_,rfl,rfl,bc.of h2,a1 _ _,_,_,rfl,rfl,⟨B1.mono (by decide),B4.mono (by decide)⟩,?_⟩
  refine ⟨_,rfl,x2,_,0,_,rfl,rfl,bc.of h2,a0 _ _,_,rfl,x1,_,1,_,rfl,rfl,bc.of h1,a1 _ _,_,_,rfl,rfl,⟨B3.mono (by decide),B2.mono (by decide)⟩,_,_,rfl,rfl,?_⟩
  refine ⟨_,rfl,x1,_,1,_,rfl,rfl,bc.of h1,a1 _ _,_,rfl,x2,_,1,_,rfl,rfl,bc.of h2,a1 _ _,_,_,rfl,rfl,⟨B2.mono (by decide),B4.mono (by decide)⟩,?_⟩
  exact ⟨p,_,_,rfl,hp,wT n1 n2,(B2.mul B4).mono (by decide),((B1.mul B4).add (B3.mul B2)).mono (by decide),hb,q⟩
end
noncomputable abbrev vG:Stmt:=(aY 46)
noncomputable abbrev rW:Stmt:=(aY 47)
noncomputable def aH (H:Hp)(r:Addr):Prop:=∃ l x:Int,H r=some (.lst [.int l,.int x])∧0≤x∧x < 2147483647
noncomputable def SameBut (r:Addr)(H H':Hp):Prop:=∀ b o,H b=some o->b≠r->H' b=some o
theorem SameBut.trans {r:Addr}{H H1 H2:Hp}(a:SameBut r H H1)(b:SameBut r H1 H2):SameBut r H H2:=fun c o e n=>b c o (a c o e n) n
theorem SameBut.of {r:Addr}{H H1:Hp}(a:au H H1):SameBut r H H1:=fun c o e _=>a c o e
theorem SameBut.upd {r:Addr}{H:Hp}{o:HO}:SameBut r H (upd H r o):=fun b u e n=>by rw [al n]; exact e
noncomputable def spPrimeL:Sp:=fun vs H Q _=>∃ r:Addr,vs=[.ref r]∧aH H r∧∀ (p:Int)(H':Hp),FP p->aH H' r->SameBut r H H'->Q (.int p) H'
noncomputable def spNumber:Sp:=fun vs H Q _=>∃ (r:Addr)(p:Int),vs=[.ref r,.int p]∧FP p∧aH H r∧∀ (a:Addr)(t b:Int)(H':Hp),Num p t b->B 45 t->B 45 b->H' a=some (cj t b)->aH H' r->SameBut r H H'->Q (.ref a) H'
section
variable {P:Program}{w:World}{K:PySem.W.Frag}{mg:Str->Option Value}{base:Heap}
theorem vD {K:Frag}{H:Hp}{a:Addr}{t b:Int}(h:H a=some (cj t b)):aI K H (.tup [.int t,.int b]) (.ref a):=by
 unfold aI
 refine ⟨a,_,rfl,bc.of h,?_⟩
 unfold ba
 refine ⟨_,_,rfl,by unfold aI; rfl,?_⟩
 unfold ba
 refine ⟨_,_,rfl,by unfold aI; rfl,?_⟩
 unfold ba
 rfl
theorem zQ (t b:Int):jl (.tup [.int t,.int b])=1:=by simp [jl,eE]
theorem CG (t b u d:Int):dX (.tup [.int t,.int b]) (.tup [.int u,.int d])=(t == u&&b == d):=by simp [dX,dn]
end
theorem jo {xs:List Int}{w:Int}(h0:0≤w)(h1:w < xs.length):∃ x∈xs,mj (xs.map V.int) w=some (.int x):=by
 have hl:w.toNat < xs.length:=by omega
 refine ⟨xs[w.toNat],List.getElem_mem hl,?_⟩
 have z:=gN (xs:=xs.map V.int) (j:=w.toNat) (v:=V.int xs[w.toNat]) (by rw [List.getElem?_map]; simp [hl])
 have e:((w.toNat:Nat):Int)=w:=by omega
 rw [e] at z
 exact z
section
variable {P:Program}{w:World}{K:PySem.W.Frag}{mg:Str->Option Value}{base:Heap}
theorem jx:FnScope ["_law_room_here","_law_at","_law_some"] ["_law_room_here"] (aj vG):=⟨rfl,rfl,rfl,by decide +kernel,rfl,by decide +kernel,by decide +kernel⟩
set_option maxHeartbeats 1000000 in
theorem tX {f ft:Addr}{fd fdt:FuncData}(F:Fun K "_law_prime" "_law_prime" vG f fd)(FT:FnOk P w K mg base (aU P w) 1 ft fdt ["_law_room_here","_law_many"] spTake)(bT:L2.ax K fdt ["_law_room_here","_law_many"] [])(mT:mg "_law_take"=some (.ref ft))(kT:keepIn K (.ref ft)=true):
 FnOk P w K mg base (aU P w) 2 f fd ["_law_room_here"] spPrimeL:=by
 refine F.okN jx (fun vs H Q E h=>?_) (fun cdv A outer s H vs Q E hr h=>?_)
 ·obtain ⟨r,rfl,_⟩:=h
  rfl
 ·obtain ⟨r,rfl,⟨l,x,hR,x0,x1⟩,q⟩:=h
  refine ⟨_,ai (aK (i:=1) jx.nd rfl (Or.inl rfl) (aq FT hr (by rfl) mT kT bT .nil ae (ag (pv 0) (ag ah ad))))
   (ai (a7 (aF cI (pv 1) ah (aG _))
    (@ai _ _ _ _ _ (@aK _ _ 2 _ _ _ _ jx.nd rfl (Or.inl rfl) (@m7 _ _ _ [11,13,17,19,23,29,31,37,41,43,47,53,59,61,67,71,73,79,83,89] rfl (by decide)) rfl (Or.inl rfl))
    (am (av (aW aZ (pv 2) (aq FT hr (by rfl) mT kT bT .nil ae (ag (pv 0) (ag ah ad))) (fun _ _=>rfl))))) aC)
   (@am _ _ _ (@av _ _ _ _ (@aW _ _ _ _ _ _ _ aZ (@m7 _ _ _ [0,0,2,3,5,7,97,0] rfl (by decide)) (pv 1) (fun _ _=>rfl))))),?_⟩
  refine ⟨_,rfl,r,l,x,9,rfl,hR,x0,x1,by decide,by decide,fun z l2 r2 z0 z1 g0 g1=>?_⟩
  refine ⟨_,rfl,rfl,_,rfl,?_⟩
  have hR2:(upd H r (.lst [.int l2,.int r2])) r=some (.lst [.int l2,.int r2]):=ac
  have S2:SameBut r H (upd H r (.lst [.int l2,.int r2])):=SameBut.upd
  generalize (upd H r (.lst [.int l2,.int r2]))=H2 at hR2 S2 ⊢
  refine b7 (fun h=>?_) (fun h=>?_)
  ·refine fun m hm=>?_
   have S3:=ak (o:=.lst ([11,13,17,19,23,29,31,37,41,43,47,53,59,61,67,71,73,79,83,89].map V.int)) hm
   have em:(upd H2 m (.lst ([11,13,17,19,23,29,31,37,41,43,47,53,59,61,67,71,73,79,83,89].map V.int))) m=some (.lst ([11,13,17,19,23,29,31,37,41,43,47,53,59,61,67,71,73,79,83,89].map V.int)):=ac
   have hR3:=S3 _ _ hR2
   refine ⟨_,rfl,_,rfl,r,l2,r2,20,rfl,hR3,g0,g1,by decide,by decide,fun z' l3 r3 z0' z1' g0' g1'=>?_⟩
   obtain ⟨y,hy,hat⟩:=jo (xs:=[11,13,17,19,23,29,31,37,41,43,47,53,59,61,67,71,73,79,83,89]) z0' z1'
   have nm:m≠r:=oO em hR3 (by intro z; cases z)
   refine ⟨m,_,z',_,rfl,rfl,aO.of (by rw [al nm]; exact em),hat,?_⟩
   have all:∀ y∈([11,13,17,19,23,29,31,37,41,43,47,53,59,61,67,71,73,79,83,89]:List Int),y∈primes:=by decide
   exact q y _ (.inr (all y hy)) ⟨l3,r3,ac,g0',g1'⟩ ((S2.trans (SameBut.of S3)).trans SameBut.upd)
  ·have hz:z < 8:=by
    have:z≠8:=by simpa using h
    omega
   refine fun m hm=>?_
   have S3:=ak (o:=.lst ([0,0,2,3,5,7,97,0].map V.int)) hm
   have em:(upd H2 m (.lst ([0,0,2,3,5,7,97,0].map V.int))) m=some (.lst ([0,0,2,3,5,7,97,0].map V.int)):=ac
   obtain ⟨y,hy,hat⟩:=jo (xs:=[0,0,2,3,5,7,97,0]) z0 hz
   refine ⟨_,rfl,m,_,z,_,rfl,rfl,aO.of em,hat,?_⟩
   have all:∀ y∈([0,0,2,3,5,7,97,0]:List Int),y=0∨y∈primes:=by decide
   exact q y _ (all y hy) ⟨l2,r2,S3 _ _ hR2,g0,g1⟩ (S2.trans (SameBut.of S3))
end
section
variable {P:Program}{w:World}{K:PySem.W.Frag}{mg:Str->Option Value}{base:Heap}
theorem vN:FnScope ["_law_room_here","_law_prime_here"] ["_law_room_here","_law_prime_here"] (aj rW):=⟨rfl,rfl,rfl,by decide +kernel,rfl,by decide +kernel,by decide +kernel⟩
theorem tE {H H2:Hp}{Q:VK}{r:Addr}{t b:Int}(q:∀ (a:Addr)(t b:Int)(H':Hp),Num 0 t b->B 45 t->B 45 b->H' a=some (cj t b)->aH H' r->SameBut r H H'->Q (.ref a) H')(hb:0 < b)(hB:B 45 b)(hT:B 45 t)(hR:aH H2 r)(S:SameBut r H H2):spLLow [.int t,.int b] H2 Q fun _ _ _=>False:=by
 have hb0:b≠0:=by omega
 refine ⟨t,b,rfl,hb0,hB.mono (by decide),hT.mono (by decide),fun H' a S' e=>?_⟩
 refine q a _ _ H' (Num.low hb0) (hT.le (si hb0)) (hB.le (rO hb0)) e ?_ (S.trans (SameBut.of S'))
 obtain ⟨l,x,h,z⟩:=hR
 exact ⟨l,x,S' _ _ h,z⟩
set_option maxHeartbeats 1000000 in
theorem tZ {f ft fl:Addr}{fd fdt fdl:FuncData}(F:Fun K "_law_number" "_law_number" rW f fd)(FT:FnOk P w K mg base (aU P w) 1 ft fdt ["_law_room_here","_law_many"] spTake)(bT:L2.ax K fdt ["_law_room_here","_law_many"] [])(mT:mg "_law_take"=some (.ref ft))(kT:keepIn K (.ref ft)=true)
 (FL:FnOk P w K mg base (aU P w) 1 fl fdl ["_law_top","_law_bottom"] spLLow)(bL:L2.ax K fdl ["_law_top","_law_bottom"] [])(mL:mg "_law_lowest"=some (.ref fl))(kL:keepIn K (.ref fl)=true):
 FnOk P w K mg base (aU P w) 2 f fd ["_law_room_here","_law_prime_here"] spNumber:=by
 refine F.okN vN (fun vs H Q E h=>?_) (fun cdv A outer s H vs Q E hr h=>?_)
 ·obtain ⟨r,p,rfl,_⟩:=h
  rfl
 ·obtain ⟨r,p,rfl,hp,⟨l,x,hR,x0,x1⟩,q⟩:=h
  refine ⟨_,ai (a7 (aF vO (pv 1) ah (aG _)) (am (av (bH (ag (aq FT hr (by rfl) mT kT bT .nil ae (ag (pv 0) (ag (pv 1) ad))) (ag ah ad))))) aC)
   (ai (a7 (aF cI (aq FT hr (by rfl) mT kT bT .nil ae (ag (pv 0) (ag ah ad))) ah (aG _))
    (am (av (aq FL hr (by rfl) mL kL bL .nil ae
     (ag (az iD (aq FT hr (by rfl) mT kT bT .nil ae (ag (pv 0) (@ag _ _ _ _ _ (@az _ _ _ _ _ _ _ _ da ah (@az _ _ _ _ _ _ _ _ iC ah ah)) ad rfl))) (@az _ _ _ _ _ _ _ _ iC ah ah))
     (@ag _ _ _ _ _ (@aW _ _ _ _ _ _ _ aZ (@bq _ _ _ _ (@ag _ _ _ _ _ ah (@ag _ _ _ _ _ ah (@ag _ _ _ _ _ (@az _ _ _ _ _ _ _ _ iC ah ah) (@ag _ _ _ _ _ (@az _ _ _ _ _ _ _ _ cr (@az _ _ _ _ _ _ _ _ iC ah ah) ah) ad rfl) rfl) rfl) rfl))
       (aq FT hr (by rfl) mT kT bT .nil ae (ag (pv 0) (ag ah ad))) (fun _ _=>rfl)) ad rfl))))) aC)
   (am (av (aq FL hr (by rfl) mL kL bL .nil ae
    (ag (az iD (aq FT hr (by rfl) mT kT bT .nil ae (ag (pv 0) (ag ah ad))) ah)
    (@ag _ _ _ _ _ (@aW _ _ _ _ _ _ _ aZ (@m7 _ _ _ [1,1,2,3] rfl (by decide)) (aq FT hr (by rfl) mT kT bT .nil ae (ag (pv 0) (ag ah ad))) (fun _ _=>rfl)) ad rfl)))))),?_⟩
  refine ⟨_,rfl,_,_,rfl,rfl,_,rfl,?_⟩
  refine b7 (fun h=>?_) (fun h=>?_)
  ·have hp0:0 < p:=by simpa using h
   obtain ⟨_,p2,p97⟩:=hp.two (by omega)
   refine ⟨_,rfl,_,rfl,r,l,x,p,rfl,hR,x0,x1,hp0,by omega,fun z l2 r2 z0 z1 g0 g1=>?_⟩
   refine ⟨(by show 2≤sizeLine; decide),fun a ha=>?_⟩
   have S:=ak (o:=cj z 1) ha
   refine q a z 1 _ (Num.ofP z0 z1) ?_ (by show (1:Int).natAbs < 2 ^ 45; decide) ac ⟨l2,r2,S _ _ ac,g0,g1⟩ (SameBut.upd.trans (SameBut.of S))
   show z.natAbs < 2 ^ 45
   omega
  ·have hp0:p=0:=by
    have:=hp.nn
    have h':¬ 0 < p:=by simpa using h
    omega
   subst hp0
   refine ⟨_,rfl,r,l,x,8,rfl,hR,x0,x1,by decide,by decide,fun z l2 r2 z0 z1 g0 g1=>⟨rfl,_,rfl,?_⟩⟩
   have hR2:(upd H r (.lst [.int l2,.int r2])) r=some (.lst [.int l2,.int r2]):=ac
   have S2:SameBut r H (upd H r (.lst [.int l2,.int r2])):=SameBut.upd
   generalize (upd H r (.lst [.int l2,.int r2]))=H2 at hR2 S2 ⊢
   refine b7 (fun h=>?_) (fun h=>?_)
   ·refine ⟨_,rfl,_,_,rfl,rfl,⟨by decide,by decide,by decide⟩,_,_,rfl,rfl,.inl ⟨by decide,by decide⟩,r,l2,r2,_,rfl,hR2,g0,g1,by decide,by decide,fun y l3 r3 y0 y1 k0 k1=>?_⟩
    refine ⟨_,_,rfl,rfl,⟨by decide,by decide,by decide⟩,_,_,rfl,rfl,?_⟩
    refine ⟨_,_,rfl,rfl,⟨by decide,by decide,by decide⟩,_,_,rfl,rfl,⟨by decide,by decide,by decide⟩,_,_,rfl,rfl,(by show 4≤sizeLine; decide),fun m hm=>?_⟩
    have S3:SameBut r H2 (upd H2 r (.lst [.int l3,.int r3])):=SameBut.upd
    have hR3:(upd H2 r (.lst [.int l3,.int r3])) r=some (.lst [.int l3,.int r3]):=ac
    generalize (upd H2 r (.lst [.int l3,.int r3]))=H3 at hm S3 hR3 ⊢
    have S4:=ak (o:=.lst ([1,7,10 ^ (6:Int).toNat,10 ^ (12:Int).toNat + 39].map V.int)) hm
    have em:(upd H3 m (.lst ([1,7,10 ^ (6:Int).toNat,10 ^ (12:Int).toNat + 39].map V.int))) m=some (.lst ([1,7,10 ^ (6:Int).toNat,10 ^ (12:Int).toNat + 39].map V.int)):=ac
    have hR4:=S4 _ _ hR3
    refine ⟨_,rfl,r,l3,r3,4,rfl,hR4,k0,k1,by decide,by decide,fun v l4 r4 v0 v1 j0 j1=>?_⟩
    have nm:m≠r:=oO em hR4 (by intro z; cases z)
    obtain ⟨b,hb,hat⟩:=jo (xs:=[1,7,10 ^ (6:Int).toNat,10 ^ (12:Int).toNat + 39]) v0 v1
    refine ⟨m,_,v,_,rfl,rfl,aO.of (by rw [al nm]; exact em),hat,?_⟩
    have bb:∀ b∈([1,7,10 ^ (6:Int).toNat,10 ^ (12:Int).toNat + 39]:List Int),0 < b∧b.natAbs < 2 ^ 45:=by decide
    obtain ⟨b0,bB⟩:=bb b hb
    refine tE (H:=H) q b0 bB ?_ ⟨l4,r4,ac,j0,j1⟩ (((S2.trans S3).trans (SameBut.of S4)).trans SameBut.upd)
    have e1:(2:Int) * 10 ^ (12:Int).toNat=2000000000000:=by decide
    have e2:(10:Int) ^ (12:Int).toNat=1000000000000:=by decide
    rw [e1] at y1
    show (y - 10 ^ (12:Int).toNat).natAbs < 2 ^ 45
    rw [e2]
    omega
   ·refine ⟨_,rfl,r,l2,r2,19,rfl,hR2,g0,g1,by decide,by decide,fun y l3 r3 y0 y1 k0 k1=>?_⟩
    refine ⟨_,_,rfl,rfl,fun m hm=>?_⟩
    have S3:SameBut r H2 (upd H2 r (.lst [.int l3,.int r3])):=SameBut.upd
    have hR3:(upd H2 r (.lst [.int l3,.int r3])) r=some (.lst [.int l3,.int r3]):=ac
    generalize (upd H2 r (.lst [.int l3,.int r3]))=H3 at hm S3 hR3 ⊢
    have S4:=ak (o:=.lst ([1,1,2,3].map V.int)) hm
    have em:(upd H3 m (.lst ([1,1,2,3].map V.int))) m=some (.lst ([1,1,2,3].map V.int)):=ac
    have hR4:=S4 _ _ hR3
    refine ⟨_,rfl,r,l3,r3,4,rfl,hR4,k0,k1,by decide,by decide,fun v l4 r4 v0 v1 j0 j1=>?_⟩
    have nm:m≠r:=oO em hR4 (by intro z; cases z)
    obtain ⟨b,hb,hat⟩:=jo (xs:=[1,1,2,3]) v0 v1
    refine ⟨m,_,v,_,rfl,rfl,aO.of (by rw [al nm]; exact em),hat,?_⟩
    have bb:∀ b∈([1,1,2,3]:List Int),0 < b∧b.natAbs < 2 ^ 45:=by decide
    obtain ⟨b0,bB⟩:=bb b hb
    refine tE (H:=H) q b0 bB ?_ ⟨l4,r4,ac,j0,j1⟩ (((S2.trans S3).trans (SameBut.of S4)).trans SameBut.upd)
    show (y - 9).natAbs < 2 ^ 45
    omega
end
end K07
namespace L2
open PySem PySem.Spec PyProof.Rows PySem.W
section
variable {X:Cx}{CX:CXT}{k:Nat}{f:Addr}{fd:FuncData}{ps:List Str}{sp:Sp}{x:Str}{p pos:Pos}{e:Expr}{es:List Expr}{t:TA}{js:List Nat}{ys:List Str}
noncomputable def kc (v:V)(o:Obj):Prop:=∃ u,aB v u∧o.data = .cell (some u)
noncomputable def qS (cs:List Addr)(js:List Nat)(sp:Sp)(t:TA):TE:=fun σ H Q=>t σ H fun vs H1=>∃ ws:List V,js.map (fun j=>σ[j]?)=ws.map (fun w=>some (some w)) ∧
 ∀ os:List Obj,Paired kc ws os->(∀ c∈cs,H1 c=none)->sp vs (de (cs.zip os) H1) (fun r H'=>d3 (cs.zip os) H'∧Q r (dU (cs.zip os) H')) fun _ _ _=>False
theorem lY {pins:List (Addr × Obj)}{σ:St}{H:Hp}{s:Shared}(I:Inv X pins σ H s):∀ (ys:List Str)(js:List Nat)(ws:List V),js.map (fun j=>X.N[j]?)=ys.map some->js.map (fun j=>σ[j]?)=ws.map (fun w=>some (some w)) →
 (∀ y∈ys,X.env.kindOf y=some .cell)->(∀ y∈ys,X.fn y=true)->∃ os:List Obj,Paired kc ws os∧∀ q∈(ys.map (fG X)).zip os,H q.1=none∧s.heap.get? q.1=some q.2∧q.1 ∉ dS X.stack∧X.s₀.heap.objs.size≤q.1
 | [],js,ws,h1,h2,_,_=>by
   cases js with
   | cons j js=>simp at h1
   | nil =>
     cases ws with
     | cons w ws=>simp at h2
     | nil=>exact ⟨[],.nil,fun q hq=>by simp at hq⟩
 | y :: ys,js,ws,h1,h2,hc,hf=>by
   cases js with
   | nil=>simp at h1
   | cons j js =>
     cases ws with
     | nil=>simp at h2
     | cons w ws =>
       rw [List.map_cons,List.map_cons] at h1 h2
       have hy:=(List.cons.inj h1).1
       have ev:=(List.cons.inj h2).1
       obtain ⟨os,r,g⟩:=lY I ys js ws (List.cons.inj h1).2 (List.cons.inj h2).2 (fun z hz=>hc z (List.mem_cons_of_mem _ hz)) fun z hz=>hf z (List.mem_cons_of_mem _ hz)
       have hcy:=hc y List.mem_cons_self
       obtain ⟨m,hn,hl⟩:=I.loc
       obtain ⟨u,rv,l⟩:=hl j y w hy ev (.inr (.inl hcy))
       rcases l with ⟨k1,_⟩ | ⟨_,c,ec,o,ho,hd⟩
       ·rw [hcy] at k1; cases k1
       ·have ecA:fG X y=c:=by unfold fG; rw [ec]; rfl
        have fc:H c=none:=I.freeC y c ec
        have cab:=I.ok.cab y c (hf y List.mem_cons_self) ec
        refine ⟨o :: os,.cons ⟨u,rv,hd⟩ r,fun q hq=>?_⟩
        rw [List.map_cons,List.zip_cons_cons] at hq
        rcases List.mem_cons.mp hq with rfl | hq
        ·refine ⟨by rw [ecA]; exact fc,by rw [ecA]; exact ho,?_,by rw [ecA]; exact cab⟩
         show fG X y ∉ dS X.stack
         rw [ecA]
         intro hb'
         rcases List.mem_cons.mp (I.stkSub _ hb') with z | z
         ·exact I.cne y _ ec z
         ·obtain ⟨_,o2,e2,_⟩:=I.ok.funs.mem z
          exact absurd (Nat.lt_of_lt_of_le (Heap.lt_size e2) cab) (Nat.lt_irrefl _)
        ·exact g q hq
theorem dN {cs:List (Addr × Obj)}{a:Addr}{v:Obj}(h:cs.lookup a=some v):(a,v)∈cs:=by
 induction cs with
 | nil=>cases h
 | cons q r ih =>
   obtain ⟨b,o⟩:=q
   rw [List.lookup_cons] at h
   by_cases z:a=b
   ·subst z
    simp at h
    subst h
    exact List.mem_cons_self
   ·have zb:(a == b)=false:=by simpa using z
    rw [zb] at h
    exact List.mem_cons_of_mem _ (ih h)
theorem pH (F:FnOk X.prog X.w X.K X.mg X.base CX k f fd ps sp)(hr:Room k X.A)(hg:Gl X x)(hm:X.mg x=some (.ref f))(hk:keepIn X.K (.ref f)=true)(hb:ax X.K fd ps [])(hx:∀ (H:Hp)(s:Shared)(e:Value)(s':Shared),CX X.stack H s (fun _ _ _=>False) e s'->False)
 (hy:js.map (fun j=>X.N[j]?)=ys.map some)(hc:∀ y∈ys,X.env.kindOf y=some .cell)(hf:∀ y∈ys,X.fn y=true)(ha:PA X (e :: es) t)(hdb:(x == ("__debug__":Str))=false:=by decide)(he:starEach (e :: es) X.env=(false,eval e X.env):: starEach es X.env:=by rfl)(hpl:(backTo pos (starEach es X.env)).any (·.1)=false:=by rfl):
 PE X (.Call (.Name x p) (e :: es) [] pos) (qS (ys.map (fG X)) js sp t):=by
 intro pins s σ H Q I h
 refine wpAny_Call_Name_kw (eV I hg hm ?_ hdb)
 refine callWith_K (h₀:=X.base) I.ok.mod.kin hk (bF (ha pos pins s σ H _ I h) fun us s1 ⟨vs,H1,I1,r,ws,ew,q⟩=>⟨I1.kIn,?_⟩) he hpl
 obtain ⟨os,ro,g⟩:=lY I1 ys js ws hy ew hc hf
 have free:∀ c∈ys.map (fG X),H1 c=none:=fun c hcc=>by
  obtain ⟨y,hyy,rfl⟩:=List.mem_map.mp hcc
  have ec:=I1.ok.has y (.inl (hc y hyy))
  obtain ⟨c,ec⟩:=ec
  have ecA:fG X y=c:=by unfold fG; rw [ec]; rfl
  rw [ecA]
  exact I1.freeC y c ec
 refine xS (cs:=(ys.map (fG X)).zip os) F hr hb (fun H e s' z=>hx H s1 e s' z) I1 (fun a v e=>?_) (fun a v e hb'=>?_) (fun a v e=>?_) r (q os ro free)
 ·have z:=g _ (dN e)
  exact ⟨z.1,z.2.1⟩
 ·exact (g _ (dN e)).2.2.1 hb'
 ·exact (g _ (dN e)).2.2.2
end
end L2
namespace K07
open PySem L2 PySem.W Nm
noncomputable abbrev vt:Stmt:=a9 (aY 38) 4
noncomputable abbrev lJ:Stmt:=a9 (aY 38) 11
theorem Th.same {H H':Hp}{x:V}{T:String}(h:Th H x T)(s:au H H'):Th H' x T:=by
 cases h with
 | non=>exact .non
 | bl b=>exact .bl b
 | int i=>exact .int i
 | str x=>exact .str x
 | lst e=>exact .lst (s _ _ e)
 | tup e=>exact .tup (s _ _ e)
 | dK e=>exact .dK (s _ _ e)
inductive TX (H:Hp):V->Option (V × V)->Prop where
 | no {x:V}{T:String}:Th H x T->T ≠ "tuple"->TX H x none
 | odd {a:Addr}{xs:List V}:H a=some (.tup xs)->xs.length≠2->TX H (.ref a) none
 | two {a:Addr}{y z:V}{Ty Tz:String}:H a=some (.tup [y,z])->Th H y Ty->Th H z Tz->TX H (.ref a) (some (y,z))
theorem TX.same {H H':Hp}{x:V}{o:Option (V × V)}(h:TX H x o)(s:au H H'):TX H' x o:=by
 cases h with
 | no th n=>exact .no (th.same s) n
 | odd e n=>exact .odd (s _ _ e) n
 | two e h1 h2=>exact .two (s _ _ e) (h1.same s) (h2.same s)
noncomputable def wf (p:Int):Option (V × V)->Bool
 | some (.int t,.int b)=>if p=0 then decide (1≤b)&&decide (Int.gcd t b=1) else decide (b=1)&&(decide (0≤t)&&decide (t < p))
 | _=>false
theorem Th.isTup {K:Frag}{H:Hp}{x:V}{T:String}(h:Th H x T):kitOne K (.type T) (.type "tuple")=some (decide (T="tuple")):=by cases h <;> rfl
noncomputable def qJ (C NN:Addr):Sp:=fun vs H Q E=>∃ (s dx:Addr)(p:Int)(x y:V)(Tx Ty:String),vs=[.ref s,x,y]∧H s=some (.ins C dx (gu p))∧Th H x Tx∧Th H y Ty∧(∀ t b,x = .int t->y = .int b->pO C NN [.ref s,.int t,.int b] H Q E)∧((cB x&&cB y)=false->E (.ref NN) none H)
noncomputable def jX (C:Addr):Sp:=fun vs H Q _=>∃ (s dx:Addr)(p:Int)(x:V)(o:Option (V × V)),vs=[.ref s,x]∧H s=some (.ins C dx (gu p))∧FP p∧TX H x o∧Q (.bl (wf p o)) H
section
variable {P:Program}{w:World}{K:PySem.W.Frag}{mg:Str->Option Value}{base:Heap}
theorem Az:FnScope ["self","top","bottom"] ["self","top","bottom"] (aj vt):=⟨rfl,rfl,rfl,by decide +kernel,rfl,by decide +kernel,by decide +kernel⟩
theorem ya {f C NN fq fw T:Addr}{fd fdq fdw:FuncData}(F:FunD K "made" "Field.made" vt f fd T)(c:FieldK K mg C)(mN:mg "NoNumber"=some (.ref NN))(qN:excIn K NN xt mZ=true)
 (FQ:FnOk P w K mg base (aU P w) 3 fq fdq ["self","top","bottom"] (pO C NN))(bQ:L2.ax K fdq ["self","top","bottom"] [])(mQ:L2.Meth K C "quotient" fq)
 (FW:FnOk P w K mg base (aU P w) 1 fw fdw ["thing"] spWhole)(bW:L2.ax K fdw ["thing"] [])(mW:mg "is_whole"=some (.ref fw))(kW:keepIn K (.ref fw)=true):FnOk P w K mg base (aU P w) 4 f fd ["self","top","bottom"] (qJ C NN):=by
 refine F.okE Az (fun vs H Q E h=>?_) (fun cdv A outer s H vs Q E hr h=>?_)
 ·obtain ⟨s,dx,p,x,y,Tx,Ty,rfl,_⟩:=h
  rfl
 ·obtain ⟨s,dx,p,x,y,Tx,Ty,rfl,hs,hx,hy,q,qE⟩:=h
  have hr1:Room 1 _:=hr.mono (by decide)
  refine ⟨_,ai (a7 (PW.pt (dQ (bY (bw (aq FW hr1 (by rfl) mW kW bW .nil ae (ag (pv 1) ad)))) (cN (bY (bw (aq FW hr1 (by rfl) mW kW bW .nil ae (ag (pv 2) ad)))))))
   (am (d8 PySem.F.excBase_ValueError qN rfl db (by rfl) mN (ag cn ad))) aC)
   (am (av (dk (E:=E) (pv 0) c.cl mQ FQ hr bQ .nil pP (ag (pv 1) (ag (pv 2) ad))))),?_⟩
  refine ⟨_,rfl,x,Tx,rfl,hx,_,rfl,?_⟩
  cases e1:cB x with
  | false=>exact br (br ⟨by decide,qE (by rw [e1]; rfl)⟩)
  | true =>
    refine bx ⟨_,rfl,y,Ty,rfl,hy,_,rfl,?_⟩
    cases e2:cB y with
    | false=>exact br ⟨by decide,qE (by rw [e1,e2]; rfl)⟩
    | true =>
      have z1:∃ t,x = .int t:=by cases x <;> first | exact ⟨_,rfl⟩ | cases e1
      have z2:∃ b,y = .int b:=by cases y <;> first | exact ⟨_,rfl⟩ | cases e2
      obtain ⟨t,rfl⟩:=z1
      obtain ⟨b,rfl⟩:=z2
      exact bx ⟨_,rfl,s,dx,_,rfl,hs,rfl,_,rfl,_,rfl,q t b rfl rfl⟩
theorem gK:FnScope ["self","thing","top","bottom"] ["self","thing"] (aj lJ):=⟨rfl,rfl,rfl,by decide +kernel,rfl,by decide +kernel,by decide +kernel⟩
theorem pz {f C fg fw:Addr}{fd fdg fdw:FuncData}{tF:Tok}(F:Fun K "is_number" "Field.is_number" lJ f fd)(c:FieldK K mg C)(mF:mg "FRACTIONS"=some (.int 0 tF))(n:Nones mg)(mT:mg "tuple"=none)(mN:mg "len"=none)
 (FG:FnOk P w K mg base (aU P w) 1 fg fdg ["one","other"] spGcd)(bG:L2.ax K fdg ["one","other"] [])(mG:mg "common_divisor"=some (.ref fg))(kG:keepIn K (.ref fg)=true)
 (FW:FnOk P w K mg base (aU P w) 1 fw fdw ["thing"] spWhole)(bW:L2.ax K fdw ["thing"] [])(mW:mg "is_whole"=some (.ref fw))(kW:keepIn K (.ref fw)=true):FnOk P w K mg base (aU P w) 2 f fd ["self","thing"] (jX C):=by
 refine F.okN gK (fun vs H Q E h=>?_) (fun cdv A outer s H vs Q E hr h=>?_)
 ·obtain ⟨s,dx,p,x,o,rfl,_⟩:=h
  rfl
 ·obtain ⟨s,dx,p,x,o,rfl,hs,hp,tx,q⟩:=h
  refine ⟨_,ai (a7 (PW.pt (dQ (bY (bw (ar aN (by rfl) n.isi (by rfl) (ag (pv 1) (ag (ck (by rfl) mT (by rfl) (show aB (.ty "tuple") (.type "tuple") from rfl)) ad)))))
   (cN (aF iU (ar aQ (by rfl) mN PySem.boot_len (ag (pv 1) ad)) ah (aG _))))) (am (av c9)) aC)
   (ai (m5 (pv 1) (cV rfl (aL (aE (i:=2) gK.nd rfl (Or.inl rfl)) (aL (aE (i:=3) gK.nd rfl (Or.inl rfl)) cw))))
   (ai (a7 (PW.pt (dQ (bY (bw (aq FW hr (by rfl) mW kW bW .nil ae (ag (pv 2) ad)))) (cN (bY (bw (aq FW hr (by rfl) mW kW bW .nil ae (ag (pv 3) ad))))))) (am (av c9)) aC)
   (ai (a7 (aF cI (cp (pv 0) rfl) (di (by rfl) mF (show aB (.int 0) (.int 0 tF) from ⟨_,rfl⟩)) (aG _))
    (am (av (dL (cX y9 (pv 3) ah (aG _)) (eO (cX cI (aq FG hr (by rfl) mG kG bG .nil ae (ag (pv 2) (ag (pv 3) ad))) ah (aG _)))))) aC)
   (am (av (dL (cX cI (pv 3) ah (aG _)) (eO (ky kh fM ah (pv 2) (cp (pv 0) rfl))))))))),?_⟩
  cases tx with
  | @no x T th ne =>
    refine ⟨_,rfl,x,.ty "tuple",_,_,_,rfl,rfl,th.ty,th.isTup,_,rfl,?_⟩
    rw [decide_eq_false ne]
    exact br (br q)
  | @odd a xs ha hl =>
    refine ⟨_,rfl,.ref a,.ty "tuple",_,_,_,rfl,rfl,.of (.tup ha),rfl,_,rfl,bx ?_⟩
    refine ⟨_,rfl,a,_,rfl,.inr (bc.of ha),rfl,_,rfl,?_⟩
    refine b7 (fun _=>q) (fun h=>absurd (by simp; omega) h)
  | @two a y z Ty Tz ha hy hz =>
    refine ⟨_,rfl,.ref a,.ty "tuple",_,_,_,rfl,rfl,.of (.tup ha),rfl,_,rfl,bx ?_⟩
    refine ⟨_,rfl,a,_,rfl,.inr (bc.of ha),rfl,_,rfl,?_⟩
    refine b7 (fun h=>absurd h (by simp)) (fun _=>?_)
    refine ⟨_,rfl,a,_,rfl,bc.of ha,rfl,_,_,rfl,_,_,rfl,rfl,?_⟩
    refine ⟨_,rfl,y,Ty,rfl,hy,_,rfl,?_⟩
    cases e1:cB y with
    | false =>
      have z1:wf p (some (y,z))=false:=by cases y <;> first | rfl | cases e1
      rw [z1] at q
      exact br (br q)
    | true =>
      refine bx ⟨_,rfl,z,Tz,rfl,hz,_,rfl,?_⟩
      cases e2:cB z with
      | false =>
        have z1:wf p (some (y,z))=false:=by cases y <;> cases z <;> first | rfl | cases e2
        rw [z1] at q
        exact br q
      | true =>
        have z1:∃ t,y = .int t:=by cases y <;> first | exact ⟨_,rfl⟩ | cases e1
        have z2:∃ b,z = .int b:=by cases z <;> first | exact ⟨_,rfl⟩ | cases e2
        obtain ⟨t,rfl⟩:=z1
        obtain ⟨b,rfl⟩:=z2
        refine bx ?_
        refine ⟨_,rfl,s,C,dx,_,_,rfl,hs,c.cl,c.nP,rfl,rfl,_,rfl,?_⟩
        refine b7 (fun h=>?_) (fun h=>?_)
        ·have hp0:p=0:=by simpa using h
         have z1:wf p (some (.int t,.int b))=(decide (1≤b)&&decide (Int.gcd t b=1)):=by simp [wf,hp0]
         rw [z1] at q
         refine ⟨_,rfl,_,_,rfl,rfl,_,rfl,?_⟩
         refine b7 (fun h1=>?_) (fun h1=>?_)
         ·refine ⟨_,rfl,_,rfl,t,b,rfl,rfl,?_⟩
          have e3:decide (V.int (cS t b)=V.int 1)=decide (Int.gcd t b=1):=by
           unfold cS
           by_cases g:Int.gcd t b=1
           ·simp [g]
           ·have:¬ ((Int.gcd t b:Nat):Int)=1:=by omega
            simp [g,this]
          have h1':decide (1≤b)=true:=h1
          rw [h1',Bool.true_and,← e3] at q
          exact q
         ·have h1':decide (1≤b)=false:=by simpa using h1
          rw [h1',Bool.false_and] at q
          exact q
        ·have hp0:p≠0:=by simpa using h
         have z1:wf p (some (.int t,.int b))=(decide (b=1)&&(decide (0≤t)&&decide (t < p))):=by simp [wf,hp0]
         rw [z1] at q
         refine ⟨_,rfl,rfl,_,rfl,?_⟩
         refine b7 (fun h1=>?_) (fun h1=>?_)
         ·have h1':decide (b=1)=true:=by simpa using h1
          rw [h1',Bool.true_and] at q
          refine ⟨_,rfl,_,_,rfl,rfl,_,rfl,?_⟩
          refine b7 (fun h2=>?_) (fun h2=>?_)
          ·refine ⟨_,rfl,s,C,dx,_,_,rfl,hs,c.cl,c.nP,rfl,_,_,rfl,rfl,?_⟩
           have h2':decide (0≤t)=true:=h2
           rw [h2',Bool.true_and] at q
           exact q
          ·have h2':decide (0≤t)=false:=by simpa using h2
           rw [h2',Bool.false_and] at q
           exact q
         ·have h1':decide (b=1)=false:=by simpa using h1
          rw [h1',Bool.false_and] at q
          exact q
end
end K07
namespace L2
open PySem PySem.Spec PyProof.Rows PySem.W
noncomputable def AO:V->Bool->Prop
 | .bl b,c=>c=b
 | .int i,c=>c=(i != 0)
 | _,_=>False
theorem bJ {α β:Type}{R:α->β->Prop}:∀ {l:List α}{m:List β}{i:Nat}{a:α},Paired R l m->l[i]?=some a->∃ b,m[i]?=some b∧R a b
 | [],_,i,a,h,e=>by simp at e
 | x :: l,_,i,a,h,e=>by
   cases h with
   | cons h1 h2 =>
     cases i with
     | zero=>simp at e; subst e; exact ⟨_,rfl,h1⟩
     | succ i=>simpa using bJ h2 (by simpa using e)
theorem ku {α β:Type}{R:α->β->Prop}:∀ {l:List α}{m:List β}{i:Nat}{b:β},Paired R l m->m[i]?=some b->∃ a,l[i]?=some a∧R a b
 | [],m,i,b,h,e=>by cases h; simp at e
 | x :: l,_,i,b,h,e=>by
   cases h with
   | cons h1 h2 =>
     cases i with
     | zero=>simp at e; subst e; exact ⟨_,rfl,h1⟩
     | succ i=>simpa using ku h2 (by simpa using e)
section
variable {X:Cx}
theorem zU {A:Around}{Q:Bool->Shared->Prop}{E:Value->Shared->Prop}{s:Shared}{y:V}{c:Bool}{u:Value}(t:AO y c)(r:aB y u)(h:Q c s):wpAny (model X.prog X.w) A (truthy u) Q E s:=by
 cases y with
 | bl b =>
   cases (show u=Value.bool b from r)
   cases (show c=b from t)
   exact wpAny_truthy_bool h
 | int i =>
   obtain ⟨k,rfl⟩:=(show ∃ k,u=Value.int i k from r)
   cases (show c=(i != 0) from t)
   exact PyProof.Rows.truthy_int h
 | _=>exact t.elim
theorem fU (hc:X.calm=true):cR X (.builtin "all") (fun xs H Q=>∃ l ys bs,xs=[.ref l]∧aO X.K H l ys∧Paired AO ys bs∧Q (.bl (bs.all id)) H):=by
 intro pins s σ H xs us Q I r h
 obtain ⟨l,ys,bs,rfl,hl,hp,q⟩:=h
 obtain ⟨u,rfl,ru⟩:=dH r
 cases (show u=Value.ref l from ru)
 obtain ⟨its,rv,pl,hz⟩:=I.list hl
 have hlt:l < s.heap.objs.size:=by obtain ⟨o,n,e,_⟩:=pl; exact Heap.lt_size e
 refine call_all_walk (wpAny_pyIter_list pl.isList ?_)
 refine ⟨s.heap.objs.size,[s.heap.objs.size,l],[s.heap.objs.size],its.toArray.size,_,_,fun i=>(bs[i]?).getD true,rfl,Walks.list (A:=X.A.in1) (I.ok.hd hc) _ l (Nat.ne_of_lt hlt) its.toArray,
  ⟨⟨_,Heap.get?_push_size _ rfl,rfl,rfl⟩,pl.isList.push _⟩,fun i v s' Q' E' hP hQ=>?_,fun h' tk hk=>?_⟩
 ·have e:its[i]?=some v:=by simpa using hP
  obtain ⟨y,ey,ry⟩:=ku rv e
  obtain ⟨b,eb,tb⟩:=bJ hp ey
  simp only [eb,Option.getD_some] at hQ
  exact zU tb ry hQ
 ·have n:its.toArray.size=bs.length:=by rw [List.size_toArray,← rv.length,hp.length]
  have e:((List.range its.toArray.size).all fun i=>(bs[i]?).getD true)=bs.all id:=by rw [n]; exact LSm.range_all bs
  rw [e]
  exact ⟨.bl (bs.all id),H,I.kept (t':=tk) (LSm.kept_iter hk),rfl,q⟩
end
section
variable {X:Cx}{pins:List (Addr × Obj)}{σ:St}{H:Hp}{s:Shared}{h':Heap}
theorem Inv.hnone (I:Inv X pins σ H s){a:Addr}(hp:s.heap.get? a=none):H a=none:=by
 cases q:H a with
 | none=>rfl
 | some u =>
   obtain ⟨ob,e1⟩:=(I.hok a u q).there
   rw [hp] at e1
   cases e1
theorem Inv.newObj {a:Addr}{o:HO}{t':Nat}(I:Inv X pins σ H s)(k:∀ b u,s.heap.get? b=some u->h'.get? b=some u)(hp:s.heap.get? a=none)(new:bg X.prog X.w (upd H a o) h' a o):
 Inv X pins σ (upd H a o) { s with heap:=h',toks:=t' }:=by
 have hn:=I.hnone hp
 have nb:∀ b u,s.heap.get? b=some u->b≠a:=fun b u e z=>by rw [z,hp] at e; cases e
 exact I.un ⟨fun b u q _ _ _=>k b u q,fun b u q _ _ _=>⟨u.slots,k b u q⟩,fun b u q n _=>by rw [al (nb b u q)]; exact n,fun b u q _=>⟨u,k b u q⟩,
  fun b xs q=>by rw [al (ap q hn)]; exact q,fun b u xs q=>by rw [al (ap q hn)]; exact q,fun b ps q=>⟨#[],by rw [al (ap q hn),q]; simp⟩⟩ (dA (I.hok.kept k) hn new)
end
end L2
namespace Dit
open PySem PySem.W PyProof.Rows
section
variable {prog:Program}{w:World}{A:Around}{E:Value->Shared->Prop}{s:Shared}{d it:Addr}{es:Array DictEntry}{ep:Nat}{o:Obj}
structure Raw (h:Heap)(d:Addr)(es:Array DictEntry)(ep:Nat):Prop where
 ex:∃ o,h.get? d=some o∧o.ExactDict∧o.data = .dict es ep
theorem Raw.ty (r:Raw s.heap d es ep):s.TypeIs (.ref d) "dict":=let ⟨o,h,x,_⟩:=r.ex; ⟨o,h,x.1⟩
theorem Raw.keep {h h':Heap}(r:Raw h d es ep)(k:∀ o,h.get? d=some o->h'.get? d=some o):Raw h' d es ep:=let ⟨o,h1,x⟩:=r.ex; ⟨o,k o h1,x⟩
theorem qj {Q:Value->Shared->Prop}(r:Raw s.heap d es ep)(hd:(d == sysModules)=false)(h:Q (.ref s.heap.objs.size) { s with heap:=s.heap.push { cls:=.type "dict_items",data:=.fields #[.ref d] } }):
 wpAny (model prog w) A (call (.builtin "dict.items") [.ref d]) Q E s:=by
 refine wpAny_call_entry F.slot_dict_items r.ty F.entry_dict_items ?_ (F.args_dict_items_1 _)
 unfold Builtin.«dict.items» Builtin.Dict.noArgs; refine wpAny_bind (wpAny_bind (wpAny_notOrdered_dict r.ty (wpAny_pure ?_)))
 show wpAny _ _ (Builtin.Dict.showsAll d >>= _) _ _ s; unfold Builtin.Dict.showsAll; rw [if_neg (by rw [hd]; exact Bool.false_ne_true)]
 exact wpAny_bind (wpAny_pure (wpAny_bind (wpAny_newObj_type (wpAny_pure ⟨_,rfl,h⟩))))
theorem qy {v:Addr}{Q:Value->Shared->Prop}(hv:s.heap.IsItemsView v d)(r:Raw s.heap d es ep)
 (hQ:Q (.ref s.heap.objs.size) { s with heap:=s.heap.push { cls:=.type "dict_itemiterator",data:=.fields #[.none,.bool false,.ref d,.int 0 0,.int es.size 0,.int ep 0,.none,.none] } }):wpAny (model prog w) A (pyIter (.ref v)) Q E s:=by
 obtain ⟨ov,g1,g2,g3⟩:=id hv
 obtain ⟨o,h1,h2,h3⟩:=r.ex
 refine wpAny_pyIter_slot hv.typeIs F.slot_dict_items_iter (wpAny_call_entry F.slot_dict_items_iter hv.typeIs F.entry_dict_items_iter ?_ (F.args_dict_items_iter_1 _))
 unfold Builtin.«dict_items.__iter__» Builtin.Dict_items.dictOf; refine wpAny_bind (wpAny_pure (wpAny_bind (wpAny_bind (wpAny_field g1 g3 (x:=.ref d) rfl (wpAny_pure (wpAny_bind ?_))))))
 unfold Builtin.Dict_items.newIterator; refine wpAny_bind (wpAny_dictEntries h1 h3 (wpAny_bind (wpAny_dictEpoch h1 h3 ?_)))
 simp only [show Builtin.Dict_items.ownsTuple "dict_itemiterator"=true from by decide,if_true]
 refine wpAny_newObj_type (wpAny_pure ⟨_,rfl,"dict_itemiterator",_,⟨_,Heap.get?_push_size _ rfl,rfl⟩,F.slot_dict_itemiterator_next.lookup,?_⟩) (by simp only [sizeOk,Builtin.Dict_items.ownedTupleFields,List.size_toArray,List.length_append,List.length_cons,List.length_nil,sizeLine_eq]; omega)
 simpa [rawInt,Builtin.Dict_items.ownedTupleFields] using hQ
theorem qa {i:Nat}{ok ov:Value}{Q:Option Value->Shared->Prop}(hit:IsItemIter s.heap it d i es.size ep ok ov)(r:Raw s.heap d es ep)(hi:i < es.size)
 (hQ:∀ h',IsItemIterOut h' it d (i + 1) es.size ep es[i].key es[i].val s.heap.objs.size->h'.get? s.heap.objs.size=some { cls:=.type "tuple",data:=.seq #[es[i].key,es[i].val] }->h'.objs.size=s.heap.objs.size + 1 →
  (∀ b o,b≠it->s.heap.get? b=some o->h'.get? b=some o)->Q (some (.ref s.heap.objs.size)) { s with heap:=h' }):wpAny (model prog w) A (pyNext (.ref it)) Q E s:=by
 obtain ⟨hp,g,dr,tk,os⟩:=s
 obtain ⟨o,h1,h2,h3⟩:=r.ex
 have hT:Shared.TypeIs ⟨hp,g,dr,tk,os⟩ (.ref it) "dict_itemiterator":=⟨_,hit,rfl⟩
 unfold pyNext; refine wpAny_bind (wpAny_attempt (wpAny_callSpecial?_slot (name:=Str.ofString "__next__") hT F.slot_dict_itemiterator_next (wpAny_call_entry F.slot_dict_itemiterator_next hT F.entry_dict_itemiterator_next ?_ (F.args_dict_itemiterator_next_1 _))))
 refine wpAny_bind (wpAny_pure (wpAny_bind (wpAny_bind ?_)))
 first | refine wpAny_bind (wpAny_typeNameOfWhole_itemiter hT (wpAny_pure (wpAny_bind (wpAny_fieldsOf hit rfl ?_)))) | refine wpAny_bind (wpAny_typeNameOf_itemiter hT (wpAny_pure (wpAny_bind (wpAny_fieldsOf hit rfl ?_))))
 simp only [show Builtin.Dict_items.ownsTuple "dict_itemiterator"=true from by decide,if_true]
 show wpAny _ _ (if (Value.ref d == Value.none)=true then _ else _) _ _ _; rw [if_neg (show ¬ ((Value.ref d == Value.none)=true) from Bool.false_ne_true)]
 refine wpAny_bind (wpAny_pure (wpAny_bind (wpAny_dictEntries h1 h3 ?_))); rw [if_neg (by simp)]
 refine wpAny_bind (wpAny_pure (wpAny_bind (wpAny_dictEpoch h1 h3 ?_))); rw [if_neg (by simp)]; refine wpAny_pure ?_
 simp only [show ¬ ((i:Int) < 0) from by omega,if_false,Int.toNat_natCast,Array.getElem?_eq_getElem hi]
 refine wpAny_bind ?_
 first | refine wpAny_bind (wpAny_typeNameOfWhole_itemiter hT (wpAny_pure (wpAny_bind (wpAny_isOneOf_itemiter hT ?_)))) | refine wpAny_bind (wpAny_typeNameOf_itemiter hT (wpAny_pure (wpAny_bind (wpAny_isOneOf_itemiter hT ?_))))
 show wpAny _ _ (setField (.ref it) 3 (rawInt ((i:Int) + 1)) >>= _) _ _ ⟨hp,g,dr,tk,os⟩; refine wpAny_bind (wpAny_setField_rec hit (by simp) fun k1 e1 (b1:Heap.SameBut it hp k1)=>?_)
 have q1:IsItemIter k1 it d (i + 1) es.size ep ok ov:=by
  unfold IsItemIter; rw [show ((i + 1:Nat):Int)=(i:Int) + 1 by omega]; simpa [rawInt] using e1
 have t1:Shared.TypeIs ⟨k1,g,dr,tk,os⟩ (.ref it) "dict_itemiterator":=⟨_,q1,rfl⟩
 refine wpAny_bind (wpAny_holding (wpAny_bind (wpAny_isOneOf_itemiter t1 (wpAny_bind (wpAny_isOneOf_itemiter t1 ?_)))))
 show wpAny _ _ (Builtin.Dict_items.pairFromOwner (.ref it) 6 es[i].key es[i].val) _ _ ⟨k1,g,dr,tk,os⟩; unfold Builtin.Dict_items.pairFromOwner; refine wpAny_bind (wpAny_newTuple ?_)
 have q2:IsItemIter (k1.push { cls:=.type "tuple",data:=.seq #[es[i].key,es[i].val] }) it d (i + 1) es.size ep ok ov:=Heap.get?_push_of_some _ q1
 have z1:k1.objs.size=hp.objs.size:=b1.1
 have ne:hp.objs.size≠it:=Nat.ne_of_gt (Heap.lt_size hit)
 have w2:(k1.push { cls:=.type "tuple",data:=.seq #[es[i].key,es[i].val] }).get? hp.objs.size=some { cls:=.type "tuple",data:=.seq #[es[i].key,es[i].val] }:=by rw [← z1]; exact Heap.get?_push_size _ rfl
 have z2:(k1.push { cls:=.type "tuple",data:=.seq #[es[i].key,es[i].val] }).objs.size=hp.objs.size + 1:=by rw [Heap.size_push,z1]
 have p2:∀ b o,b≠it->hp.get? b=some o->(k1.push { cls:=.type "tuple",data:=.seq #[es[i].key,es[i].val] }).get? b=some o:=fun b o hb e=>Heap.get?_push_of_some _ (b1.extBut b o hb e)
 show wpAny _ _ (Builtin.Dict_items.ownedTupleIsFree (.ref it) >>= _) _ _ ⟨k1.push { cls:=.type "tuple",data:=.seq #[es[i].key,es[i].val] },g,dr,tk,os⟩; rw [z1]
 generalize k1.push { cls:=.type "tuple",data:=.seq #[es[i].key,es[i].val] }=k2 at q2 w2 z2 p2 ⊢
 unfold Builtin.Dict_items.ownedTupleIsFree; refine wpAny_bind (wpAny_bind (wpAny_field q2 rfl (x:=.none) rfl (wpAny_pure ?_))); simp only [if_true]
 refine wpAny_bind (wpAny_field q2 rfl (x:=ok) rfl (wpAny_bind (wpAny_field q2 rfl (x:=ov) rfl (wpAny_bind (wpAny_setField_rec q2 (by simp) fun k3 e3 (b3:Heap.SameBut it k2 k3)=>?_)))))
 have q3:IsItemIter k3 it d (i + 1) es.size ep es[i].key ov:=e3
 refine wpAny_bind (wpAny_setField_rec q3 (by simp) fun k4 e4 (b4:Heap.SameBut it k3 k4)=>?_)
 have q4:IsItemIter k4 it d (i + 1) es.size ep es[i].key es[i].val:=e4
 refine wpAny_bind (wpAny_setField_rec q4 (by simp) fun k5 e5 (b5:Heap.SameBut it k4 k5)=>?_)
 have q5:IsItemIterOut k5 it d (i + 1) es.size ep es[i].key es[i].val hp.objs.size:=e5
 refine wpAny_bind (wpAny_setField_rec q5 (by simp) fun k6 e6 (b6:Heap.SameBut it k5 k6)=>?_)
 have q6:IsItemIterOut k6 it d (i + 1) es.size ep es[i].key es[i].val hp.objs.size:=e6
 have go:∀ b o,b≠it->k2.get? b=some o->k6.get? b=some o:=fun b o hb e=>b6.extBut b o hb (b5.extBut b o hb (b4.extBut b o hb (b3.extBut b o hb e)))
 exact wpAny_bind (wpAny_letGo (wpAny_pure (wpAny_pure ⟨_,rfl,wpAny_pure (hQ k6 q6 (go _ _ ne w2) (by show k6.objs.size=hp.objs.size + 1; rw [b6.1,b5.1,b4.1,b3.1,z2]) fun b o hb e=>go b o hb (p2 b o hb e))⟩)))
theorem tW {i:Nat}{ok ov:Value}{Q:Option Value->Shared->Prop}(hh:A.handled=none)(hit:IsItemIter s.heap it d i es.size ep ok ov)(r:Raw s.heap d es ep)(hi:es.size≤i)
 (hQ:∀ h',Heap.ExtBut it s.heap h'->Q none { s with heap:=h' }):wpAny (model prog w) A (pyNext (.ref it)) Q E s:=by
 obtain ⟨o,h1,h2,h3⟩:=r.ex
 have hT:s.TypeIs (.ref it) "dict_itemiterator":=⟨_,hit,rfl⟩
 unfold pyNext; refine wpAny_bind (wpAny_attempt (wpAny_callSpecial?_slot (name:=Str.ofString "__next__") hT F.slot_dict_itemiterator_next (wpAny_call_entry F.slot_dict_itemiterator_next hT F.entry_dict_itemiterator_next ?_ (F.args_dict_itemiterator_next_1 _))))
 refine wpAny_bind (wpAny_pure (wpAny_bind (wpAny_bind ?_)))
 first | refine wpAny_bind (wpAny_typeNameOfWhole_itemiter hT (wpAny_pure (wpAny_bind (wpAny_fieldsOf hit rfl ?_)))) | refine wpAny_bind (wpAny_typeNameOf_itemiter hT (wpAny_pure (wpAny_bind (wpAny_fieldsOf hit rfl ?_))))
 simp only [show Builtin.Dict_items.ownsTuple "dict_itemiterator"=true from by decide,if_true]
 show wpAny _ _ (if (Value.ref d == Value.none)=true then _ else _) _ _ _; rw [if_neg (show ¬ ((Value.ref d == Value.none)=true) from Bool.false_ne_true)]
 refine wpAny_bind (wpAny_pure (wpAny_bind (wpAny_dictEntries h1 h3 ?_))); rw [if_neg (by simp)]
 refine wpAny_bind (wpAny_pure (wpAny_bind (wpAny_dictEpoch h1 h3 ?_))); rw [if_neg (by simp)]; refine wpAny_pure ?_
 simp only [show ¬ ((i:Int) < 0) from by omega,if_false,Int.toNat_natCast,Array.getElem?_eq_none hi]
 refine wpAny_bind ?_
 first | refine wpAny_bind (wpAny_typeNameOfWhole_itemiter hT (wpAny_pure ?_)) | refine wpAny_bind (wpAny_typeNameOf_itemiter hT (wpAny_pure ?_))
 show wpAny _ _ (setField (.ref it) 2 .none >>= _) _ _ s; refine wpAny_bind (wpAny_setField hit rfl (by simp) ?_)
 show wpAny _ _ (newExc (.type "StopIteration") [] >>= _) _ _ _; refine wpAny_bind ?_; simp only [newExc,newTuple]
 refine wpAny_bind (wpAny_newObj_type (wpAny_bind (m:=firstArgMember _ _) (wpAny_of_eq (a:=Value.none) (by first | rfl | (simp only [firstArgMember]; rfl)) (wpAny_newObj_type ?_ (by size_fits)))) (by size_fits))
 simp only [raiseNew]; refine wpAny_bind (wpAny_handled ?_); rw [show A.in1.handled=none from hh]
 refine wpAny_bind (wpAny_pure (wpAny_throw ?_))
 refine wpAny_bind (wpAny_isInstance (T:="StopIteration") (b:=true) ⟨_,Heap.get?_push_size _ rfl,rfl⟩ isSubtype_stop ?_); exact wpAny_pure (hQ _ (((Heap.SameBut.update ..).extBut.push _).push _))
theorem ux {Q:Value->Shared->Prop}(r:Raw s.heap d es ep)(hd:(d == sysModules)=false)
 (hQ:Q (.ref s.heap.objs.size) { s with heap:=s.heap.push { cls:=.type "dict_keyiterator",data:=.fields #[.ref d,.int 0 0,.int es.size 0,.int ep 0] } }):wpAny (model prog w) A (pyIter (.ref d)) Q E s:=by
 obtain ⟨o,h1,h2,h3⟩:=r.ex
 refine wpAny_pyIter_slot r.ty F.slot_dict_iter (wpAny_call_entry F.slot_dict_iter r.ty F.entry_dict_iter ?_ (F.args_dict_iter_1 _))
 unfold Builtin.«dict.__iter__» Builtin.Dict.dictSlotNone; refine wpAny_bind (wpAny_bind (wpAny_notOrdered_dict r.ty (?_:wpAny _ _ (pure (Value.ref d)) _ _ s)))
 refine wpAny_pure ?_; show wpAny _ _ (Builtin.Dict.showsAll d >>= _) _ _ s; unfold Builtin.Dict.showsAll; rw [if_neg (by rw [hd]; exact Bool.false_ne_true)]
 refine wpAny_bind (wpAny_pure (wpAny_bind (wpAny_dictEntries h1 h3 (wpAny_bind (wpAny_dictEpoch h1 h3 (wpAny_bind (wpAny_newObj_type (wpAny_pure ⟨_,rfl,"dict_keyiterator",_,⟨_,Heap.get?_push_size _ rfl,rfl⟩,F.slot_dict_keyiterator_next.lookup,?_⟩))))))))
 simpa [rawInt] using hQ
theorem uh {i:Nat}{Q:Option Value->Shared->Prop}(hit:s.heap.IsKeyIter it d i es.size ep)(r:Raw s.heap d es ep)(hi:i < es.size)
 (hQ:∀ h',h'.IsKeyIter it d (i + 1) es.size ep->Heap.SameBut it s.heap h'->Q (some es[i].key) { s with heap:=h' }):wpAny (model prog w) A (pyNext (.ref it)) Q E s:=by
 obtain ⟨oi,g1,g2,g3⟩:=id hit
 obtain ⟨o,h1,h2,h3⟩:=r.ex
 have hT:=hit.typeIs
 unfold pyNext; refine wpAny_bind (wpAny_attempt (wpAny_callSpecial?_slot (name:=Str.ofString "__next__") hT F.slot_dict_keyiterator_next (wpAny_call_entry F.slot_dict_keyiterator_next hT F.entry_dict_keyiterator_next ?_ (F.args_dict_keyiterator_next_1 _))))
 refine wpAny_bind (wpAny_pure (wpAny_bind (wpAny_bind ?_)))
 first | refine wpAny_bind (wpAny_typeNameOfWhole_keyiter hT (wpAny_pure (wpAny_bind (wpAny_fieldsOf g1 g3 ?_)))) | refine wpAny_bind (wpAny_typeNameOf_keyiter hT (wpAny_pure (wpAny_bind (wpAny_fieldsOf g1 g3 ?_))))
 simp only [show Builtin.Dict_items.ownsTuple "dict_keyiterator"=false from by decide,Bool.false_eq_true,if_false]
 show wpAny _ _ (if (Value.ref d == Value.none)=true then _ else _) _ _ _; rw [if_neg (show ¬ ((Value.ref d == Value.none)=true) from Bool.false_ne_true)]
 refine wpAny_bind (wpAny_pure (wpAny_bind (wpAny_dictEntries h1 h3 ?_))); rw [if_neg (by simp)]
 refine wpAny_bind (wpAny_pure (wpAny_bind (wpAny_dictEpoch h1 h3 ?_))); rw [if_neg (by simp)]; refine wpAny_pure ?_
 simp only [show ¬ ((i:Int) < 0) from by omega,if_false,Int.toNat_natCast,Array.getElem?_eq_getElem hi]
 refine wpAny_bind ?_
 first | refine wpAny_bind (wpAny_typeNameOfWhole_keyiter hT (wpAny_pure (wpAny_bind (wpAny_isOneOf_keyiter hT ?_)))) | refine wpAny_bind (wpAny_typeNameOf_keyiter hT (wpAny_pure (wpAny_bind (wpAny_isOneOf_keyiter hT ?_))))
 show wpAny _ _ (setField (.ref it) 1 (rawInt ((i:Int) + 1)) >>= _) _ _ s; refine wpAny_bind (wpAny_setField g1 g3 (by simp) ?_)
 have q1:(s.heap.update it (Obj.mapFields (·.setIfInBounds 1 (rawInt ((i:Int) + 1))))).IsKeyIter it d (i + 1) es.size ep:=⟨_,Heap.get?_update_self _ g1 (Obj.isFreed_of_fields (Obj.data_mapFields g3 _)),(Obj.cls_mapFields ..).trans g2,by rw [Obj.data_mapFields g3]; simp [rawInt]⟩
 refine wpAny_bind (wpAny_holding (wpAny_bind (wpAny_isOneOf_keyiter (s:={ s with heap:=s.heap.update it (Obj.mapFields (·.setIfInBounds 1 (rawInt ((i:Int) + 1)))) }) q1.typeIs (?_:wpAny _ _ (pure es[i].key) _ _ _))))
 exact wpAny_pure (wpAny_pure ⟨_,rfl,wpAny_pure (hQ _ q1 (Heap.SameBut.update ..))⟩)
theorem xg {i:Nat}{Q:Option Value->Shared->Prop}(hh:A.handled=none)(hit:s.heap.IsKeyIter it d i es.size ep)(r:Raw s.heap d es ep)(hi:es.size≤i)
 (hQ:∀ h',Heap.ExtBut it s.heap h'->Q none { s with heap:=h' }):wpAny (model prog w) A (pyNext (.ref it)) Q E s:=by
 obtain ⟨oi,g1,g2,g3⟩:=id hit
 obtain ⟨o,h1,h2,h3⟩:=r.ex
 have hT:=hit.typeIs
 unfold pyNext; refine wpAny_bind (wpAny_attempt (wpAny_callSpecial?_slot (name:=Str.ofString "__next__") hT F.slot_dict_keyiterator_next (wpAny_call_entry F.slot_dict_keyiterator_next hT F.entry_dict_keyiterator_next ?_ (F.args_dict_keyiterator_next_1 _))))
 refine wpAny_bind (wpAny_pure (wpAny_bind (wpAny_bind ?_)))
 first | refine wpAny_bind (wpAny_typeNameOfWhole_keyiter hT (wpAny_pure (wpAny_bind (wpAny_fieldsOf g1 g3 ?_)))) | refine wpAny_bind (wpAny_typeNameOf_keyiter hT (wpAny_pure (wpAny_bind (wpAny_fieldsOf g1 g3 ?_))))
 simp only [show Builtin.Dict_items.ownsTuple "dict_keyiterator"=false from by decide,Bool.false_eq_true,if_false]
 show wpAny _ _ (if (Value.ref d == Value.none)=true then _ else _) _ _ _; rw [if_neg (show ¬ ((Value.ref d == Value.none)=true) from Bool.false_ne_true)]
 refine wpAny_bind (wpAny_pure (wpAny_bind (wpAny_dictEntries h1 h3 ?_))); rw [if_neg (by simp)]
 refine wpAny_bind (wpAny_pure (wpAny_bind (wpAny_dictEpoch h1 h3 ?_))); rw [if_neg (by simp)]; refine wpAny_pure ?_
 simp only [show ¬ ((i:Int) < 0) from by omega,if_false,Int.toNat_natCast,Array.getElem?_eq_none hi]
 refine wpAny_bind ?_
 first | refine wpAny_bind (wpAny_typeNameOfWhole_keyiter hT (wpAny_pure ?_)) | refine wpAny_bind (wpAny_typeNameOf_keyiter hT (wpAny_pure ?_))
 show wpAny _ _ (setField (.ref it) 0 .none >>= _) _ _ s; refine wpAny_bind (wpAny_setField g1 g3 (by simp) ?_)
 show wpAny _ _ (newExc (.type "StopIteration") [] >>= _) _ _ _; refine wpAny_bind ?_; simp only [newExc,newTuple]
 refine wpAny_bind (wpAny_newObj_type (wpAny_bind (m:=firstArgMember _ _) (wpAny_of_eq (a:=Value.none) (by first | rfl | (simp only [firstArgMember]; rfl)) (wpAny_newObj_type ?_ (by size_fits)))) (by size_fits))
 simp only [raiseNew]; refine wpAny_bind (wpAny_handled ?_); rw [show A.in1.handled=none from hh]
 refine wpAny_bind (wpAny_pure (wpAny_throw ?_))
 refine wpAny_bind (wpAny_isInstance (T:="StopIteration") (b:=true) ⟨_,Heap.get?_push_size _ rfl,rfl⟩ isSubtype_stop ?_); exact wpAny_pure (hQ _ (((Heap.SameBut.update ..).extBut.push _).push _))
end
end Dit
namespace L2
open PySem PySem.Spec PyProof.Rows PySem.W
noncomputable abbrev n8 (o:Obj)(kvs:List (List Key × V)):HO:=.frz o (.dT kvs)
noncomputable def Cu (d:Addr)(o:Obj)(kvs:List (List Key × V)):It :=
 ⟨fun i H=>i < kvs.length∧H d=some (n8 o kvs),fun i H x H'=>∃ p b k v,kvs[i]?=some (k,v)∧H p=none∧H b=some (.tup (k.map kV))∧x = .ref p∧H'=upd H p (.tup [.ref b,v]),fun i H=>kvs.length≤i∧H d=some (n8 o kvs)⟩
noncomputable def BL (d:Addr)(o:Obj)(kvs:List (List Key × V)):It :=
 ⟨fun i H=>i < kvs.length∧H d=some (n8 o kvs),fun i H x H'=>∃ b k v,kvs[i]?=some (k,v)∧H b=some (.tup (k.map kV))∧x = .ref b∧H'=H,fun i H=>kvs.length≤i∧H d=some (n8 o kvs)⟩
theorem kJ {α β:Type}{R:α->β->Prop}:∀ {l:List α}{m:List β}{i:Nat}{a:α},Paired R l m->l[i]?=some a->∃ b,m[i]?=some b∧R a b
 | _,_,_,_,.nil,e=>by simp at e
 | _,_,0,_,.cons r _,e=>by simp at e; subst e; exact ⟨_,rfl,r⟩
 | _,_,i + 1,a,.cons _ t,e=>by
   obtain ⟨b,h1,h2⟩:=kJ (i:=i) (a:=a) t (by simpa using e)
   exact ⟨b,by simpa using h1,h2⟩
section
variable {X:Cx}{pins:List (Addr × Obj)}{σ:St}{H:Hp}{s:Shared}{d:Addr}{o:Obj}{kvs:List (List Key × V)}
theorem iQ (I:Inv X pins σ H s)(e:H d=some (n8 o kvs)):∃ es ep,o.data = .dict es ep∧Dit.Raw s.heap d es ep∧es.size=kvs.length∧(d == sysModules)=false ∧
 ∀ (i:Nat)(hi:i < es.size) k v,kvs[i]?=some (k,v)->∃ b,es[i].key = .ref b∧H b=some (.tup (k.map kV))∧aB v es[i].val:=by
 obtain ⟨h0,z,y,xs,r,o',es,ep,h1,h2,h3,h4,h5⟩:=(show bg X.prog X.w H s.heap d (n8 o kvs) from I.hok d _ e)
 rw [h0] at h1
 cases h1
 have hl:es.size=kvs.length:=by
  rw [← Array.length_toList,h4,List.length_map]
  exact (Paired.length r).symm
 refine ⟨es,ep,h3,⟨_,h0,h2,h3⟩,hl,y,fun i hi k v hk=>?_⟩
 obtain ⟨q,hq,e1,e2,e3⟩:=kJ r hk
 have z1:es.toList[i]?=some (entryOfKey (tupleKind (bZ X.prog X.w)) q):=by rw [h4,List.getElem?_map,hq]; rfl
 have z2:es[i]=entryOfKey (tupleKind (bZ X.prog X.w)) q:=by
  have z3:es.toList[i]?=some es[i]:=by simp [hi]
  rw [z3] at z1
  exact Option.some.inj z1
 rw [z2]
 exact ⟨q.2.1,rfl,e2,e3⟩
theorem Inv.freeze (I:Inv X pins σ H s)(e:H d=some (.dT kvs)):∃ o,s.heap.get? d=some o∧Inv X pins σ (upd H d (n8 o kvs)) s:=by
 obtain ⟨z,y,xs,r,o,es,ep,h1,h2⟩:=(show bg X.prog X.w H s.heap d (.dT kvs) from I.hok d _ e)
 refine ⟨o,h1,I.write (t':=s.toks) (h':=s.heap) (x:=d) (e:=d) (o:=n8 o kvs) (by rw [e]; exact True.intro) (.inl rfl) (fun _ _ _ q=>q) ⟨o,h1⟩ ⟨h1,z,y,xs,?_,o,es,ep,h1,h2⟩⟩
 exact Paired.mapP r fun p q w=>⟨w.1,by rw [al (oO w.2.1 e (by intro z; cases z))]; exact w.2.1,w.2.2⟩
end
theorem pT {P:Program}{w:World}{K:Frag}{elts:List Expr}{x1:Nat}{tp:Pos}(d it:Addr)(o:Obj)(kvs:List (List Key × V))(es:Array DictEntry)(ep:Nat)(ho:o.data = .dict es ep):Turn P w K (.Tuple elts x1 tp) (Cu d o kvs) [it] it (fun i h=>∃ ok ov,IsItemIter h it d i es.size ep ok ov) where
 mem:=by simp
 obj:=fun i h st b hb=>by
  have e:b=it:=by simpa using hb
  subst e
  obtain ⟨ok,ov,e⟩:=st
  exact ⟨_,e,fun v z=>by cases z⟩
 keep:=fun i h h' st k=>let ⟨ok,ov,e⟩:=st; ⟨ok,ov,k it (by simp) _ e⟩
 item:=by
  intro X hP hw hK hc i pins s σ H E I hf st hg
  subst hP hw hK
  obtain ⟨hlt,hd⟩:=hg
  obtain ⟨ok,ov,hit⟩:=st
  obtain ⟨es',ep',ho',raw,hl,hm,hkv⟩:=iQ I hd
  rw [ho] at ho'
  cases ho'
  obtain ⟨f0,f1,f2,f3,f4,f5⟩:=hf it (by simp)
  have hi:i < es.size:=by omega
  refine Dit.qa hit raw hi fun h' q1 q2 q3 q4=>?_
  obtain ⟨⟨k,v⟩,hk⟩:∃ kv,kvs[i]?=some kv:=⟨kvs[i],by simp [hlt]⟩
  obtain ⟨b,eb,hb,rv⟩:=hkv i hi k v hk
  refine ⟨_,rfl,wpAny_letOwnedTupleGo_items (s:={ s with heap:=h' }) q1 fun h2 q5 q6=>?_⟩
  have nit:s.heap.objs.size≠it:=Nat.ne_of_gt (Heap.lt_size hit)
  have I1:Inv X pins σ H { s with heap:=h2 }:=I.turned (t':=s.toks) (fun b o hb e=>(q6.2 b hb).trans (q4 b o hb e)) f0 f1 f3 f4 f5
  have tup:h2.get? s.heap.objs.size=some { cls:=.type "tuple",data:=.seq #[es[i].key,es[i].val] }:=(q6.2 _ nit).trans q2
  have fr:H s.heap.objs.size=none:=I.hok.fresh (Nat.le_refl _)
  have I2:Inv X pins σ (upd H s.heap.objs.size (.tup [.ref b,v])) { s with heap:=h2 }:=by
   refine ⟨I1.ok,I1.os,I1.bare,?_,I1.loc,I1.cell,?_,fun x c e=>?_,fun p hp=>?_,dA I1.hok fr ⟨by show 2≤sizeLine; decide,[.ref b,es[i].val],.cons rfl (.cons rv .nil),?_⟩,I1.len⟩
   ·have u:=I1.base
    refine ⟨u.keep,u.slot,fun b' o' e n hx=>?_,u.there,fun b' xs e=>?_,fun b' o' u' e=>?_,fun b' ps e=>?_⟩
    ·have ne:b'≠s.heap.objs.size:=Nat.ne_of_lt (Nat.lt_of_lt_of_le (Heap.lt_size e) I.sz)
     rw [al ne]; exact u.free b' o' e n hx
    ·rw [al (ap (u.tups b' xs e) fr)]; exact u.tups b' xs e
    ·rw [al (ap (u.frzs b' o' u' e) fr)]; exact u.frzs b' o' u' e
    ·obtain ⟨m,q⟩:=u.tbls b' ps e
     exact ⟨m,by rw [al (ap q fr)]; exact q⟩
   ·rw [al (Nat.ne_of_lt I.lt)]; exact I1.free
   ·obtain ⟨v',q⟩:=I.cell x c e
    rw [al (Nat.ne_of_lt q.lt)]; exact I1.freeC x c e
   ·obtain ⟨e,n,r⟩:=I1.pin p hp
    have lt:p.1 < s.heap.objs.size:=Heap.lt_size (I.pin p hp).1
    exact ⟨e,by rw [al (Nat.ne_of_lt lt)]; exact n,r⟩
   ·exact ⟨_,tup,rfl,0,by rw [← eb]⟩
  refine ⟨.ref s.heap.objs.size,_,I2,rfl,⟨s.heap.objs.size,b,k,v,hk,fr,hb,rfl,rfl⟩,⟨_,_,q5⟩,fun b' hb'=>?_⟩
  have e:b'=it:=by simpa using hb'
  subst e
  rw [al (Ne.symm nit)]
  exact f0
 done:=by
  intro X hP hw hK hc i pins s σ H E I hf st hg
  subst hP hw hK
  obtain ⟨hlt,hd⟩:=hg
  obtain ⟨ok,ov,hit⟩:=st
  obtain ⟨es',ep',ho',raw,hl,hm,hkv⟩:=iQ I hd
  rw [ho] at ho'
  cases ho'
  obtain ⟨f0,f1,f2,f3,f4,f5⟩:=hf it (by simp)
  exact Dit.tW (I.ok.hd hc) hit raw (by omega) fun h' eb=>⟨rfl,I.turned (t':=s.toks) (fun b o hb e=>eb b o hb e) f0 f1 f3 f4 f5⟩
 self:=fun A i s Q E st h=>by
  obtain ⟨ok,ov,hit⟩:=st
  exact kcp_self hit h
theorem uj {P:Program}{w:World}{K:Frag}{tg:Expr}(d it:Addr)(o:Obj)(kvs:List (List Key × V))(es:Array DictEntry)(ep:Nat)(ho:o.data = .dict es ep):Turn P w K tg (BL d o kvs) [it] it (fun i h=>h.IsKeyIter it d i es.size ep) where
 mem:=by simp
 obj:=fun i h st b hb=>by
  have e:b=it:=by simpa using hb
  subst e
  obtain ⟨o,e,c,d⟩:=st
  exact ⟨o,e,fun v z=>by rw [d] at z; cases z⟩
 keep:=fun i h h' st k=>st.at fun o e=>k it (by simp) o e
 item:=by
  intro X hP hw hK hc i pins s σ H E I hf st hg
  subst hP hw hK
  obtain ⟨hlt,hd⟩:=hg
  obtain ⟨es',ep',ho',raw,hl,hm,hkv⟩:=iQ I hd
  rw [ho] at ho'
  cases ho'
  obtain ⟨f0,f1,f2,f3,f4,f5⟩:=hf it (by simp)
  have hi:i < es.size:=by omega
  refine Dit.uh st raw hi fun h' q1 q2=>?_
  obtain ⟨⟨k,v⟩,hk⟩:∃ kv,kvs[i]?=some kv:=⟨kvs[i],by simp [hlt]⟩
  obtain ⟨b,eb,hb,rv⟩:=hkv i hi k v hk
  have I1:Inv X pins σ H { s with heap:=h' }:=I.turned (t':=s.toks) (fun b o hb e=>(q2.2 b hb).trans e) f0 f1 f3 f4 f5
  obtain ⟨oi,e,c,dd⟩:=id q1
  exact ⟨_,rfl,sK (s:={ s with heap:=h' }) e c dd (by decide) ⟨.ref b,H,I1,eb,⟨b,k,v,hk,hb,rfl,rfl⟩,q1,fun b hb=>(hf b hb).1⟩⟩
 done:=by
  intro X hP hw hK hc i pins s σ H E I hf st hg
  subst hP hw hK
  obtain ⟨hlt,hd⟩:=hg
  obtain ⟨es',ep',ho',raw,hl,hm,hkv⟩:=iQ I hd
  rw [ho] at ho'
  cases ho'
  obtain ⟨f0,f1,f2,f3,f4,f5⟩:=hf it (by simp)
  exact Dit.xg (I.ok.hd hc) st raw (by omega) fun h' eb=>⟨rfl,I.turned (t':=s.toks) (fun b o hb e=>eb b o hb e) f0 f1 f3 f4 f5⟩
 self:=fun _ _ _ _ _ st h=>wpAny_pyIter_keyiter st h
noncomputable def Ce (H1:Hp)(d:Addr)(kvs:List (List Key × V))(R:Obj->Hp->Prop):Prop:=(∃ o,H1 d=some (n8 o kvs)∧R o H1)∨(H1 d=some (.dT kvs)∧∀ o,R o (upd H1 d (n8 o kvs)))
noncomputable def zB (td:TE):TI:=fun σ H R=>td σ H fun x H1=>∃ d kvs,x = .ref d∧Ce H1 d kvs fun o H2=>R (Cu d o kvs) H2
noncomputable def AY (td:TE):TI:=fun σ H R=>td σ H fun x H1=>∃ d kvs,x = .ref d∧Ce H1 d kvs fun o H2=>R (BL d o kvs) H2
section
variable {X:Cx}{pins:List (Addr × Obj)}{σ:St}{H:Hp}{s:Shared}
theorem v9 {d:Addr}{kvs:List (List Key × V)}{R:Obj->Hp->Prop}(I:Inv X pins σ H s)(h:Ce H d kvs R):∃ o H2,Inv X pins σ H2 s∧H2 d=some (n8 o kvs)∧R o H2:=by
 rcases h with ⟨o,e,r⟩ | ⟨e,r⟩
 ·exact ⟨o,H,I,e,r⟩
 ·obtain ⟨o,_,I2⟩:=I.freeze e
  exact ⟨o,_,I2,ac,r o⟩
theorem vo {oe:Expr}{td:TE}{elts:List Expr}{x1:Nat}{tp apos cpos:Pos}(ho:PE X oe td)(hbase:attributeBase oe "items" X.env (eval oe X.env)=eval oe X.env:=by rfl)(hline:(apos.endLine == cpos.line)=true:=by rfl):
 PI X (.Tuple elts x1 tp) (.Call (.Attribute oe "items" apos) [] [] cpos) (zB td):=by
 intro pins s σ H R I h
 refine wpAny_Call_method0_late hbase hline (bF (ho pins s σ H _ I h) fun v s1 ⟨x,H1,I1,r1,d,kvs,ex,fz⟩=>?_)
 subst ex
 cases (show v=Value.ref d from r1)
 obtain ⟨o,H2,I2,hd,rr⟩:=v9 I1 fz
 obtain ⟨es,ep,hod,raw,hl,hm,_⟩:=iQ I2 hd
 refine ⟨"dict","dict.items",PySem.F.plainAttrs_dict,PySem.F.slot_dict_items,PySem.F.type_dict_items,raw.ty,fun a e=>?_,Calls.callWith_builtin rfl (PySem.evalArgs_none (Dit.qj raw hm ?_))⟩
 ·cases e
  obtain ⟨o',h1,h2,_⟩:=raw.ex
  exact ⟨o',h1,h2.2.1⟩
 ·have I3:Inv X pins σ H2 { s1 with heap:=s1.heap.push { cls:=.type "dict_items",data:=.fields #[.ref d] } }:=I2.kept (t':=s1.toks) fun b ob q=>Heap.get?_push_of_some _ q
  refine Dit.qy (s:={ s1 with heap:=s1.heap.push { cls:=.type "dict_items",data:=.fields #[.ref d] } }) ⟨_,Heap.get?_push_size _ rfl,rfl,rfl⟩ (raw.keep fun o e=>Heap.get?_push_of_some _ e) ?_
  generalize s1.heap.push { cls:=.type "dict_items",data:=.fields #[.ref d] }=h2 at I3 ⊢
  refine ⟨h2.objs.size,[h2.objs.size],_,Cu d o kvs,H2,rfl,I3.kept (t':=s1.toks) fun b ob q=>Heap.get?_push_of_some _ q,pT d _ o kvs es ep hod,⟨_,_,Heap.get?_push_size _ rfl⟩,fun b hb=>?_,rr⟩
  have e:b=h2.objs.size:=by simpa using hb
  subst e
  exact I3.fpOk (Nat.le_refl _) (I3.hok.fresh (Nat.le_refl _))
theorem xy {tg oe:Expr}{td:TE}(ho:PE X oe td):PI X tg oe (AY td):=by
 intro pins s σ H R I h
 refine bF (ho pins s σ H _ I h) fun v s1 ⟨x,H1,I1,r1,d,kvs,ex,fz⟩=>?_
 subst ex
 cases (show v=Value.ref d from r1)
 obtain ⟨o,H2,I2,hd,rr⟩:=v9 I1 fz
 obtain ⟨es,ep,hod,raw,hl,hm,_⟩:=iQ I2 hd
 refine Dit.ux raw hm ⟨s1.heap.objs.size,[s1.heap.objs.size],_,BL d o kvs,H2,rfl,I2.kept (t':=s1.toks) fun b ob q=>Heap.get?_push_of_some _ q,uj d _ o kvs es ep hod,⟨_,Heap.get?_push_size _ rfl,rfl,rfl⟩,fun b hb=>?_,rr⟩
 have e:b=s1.heap.objs.size:=by simpa using hb
 subst e
 exact I2.fpOk (Nat.le_refl _) (I2.hok.fresh (Nat.le_refl _))
end
section
variable {X:Cx}{pins:List (Addr × Obj)}{σ:St}{H:Hp}{s:Shared}
theorem Inv.tupAt {s2:Shared}{T:Addr}{xs:List V}{its:List Value}(I:Inv X pins σ H s)(I1:Inv X pins σ H s2)(hT:s.heap.objs.size≤T)(e:s2.heap.get? T=some { cls:=.type "tuple",data:=.seq its.toArray })(r:aJ xs its)(hz:xs.length≤sizeLine):
 Inv X pins σ (upd H T (.tup xs)) s2:=by
 have fr:H T=none:=I.hok.fresh hT
 refine ⟨I1.ok,I1.os,I1.bare,?_,I1.loc,I1.cell,?_,fun x c e=>?_,fun p hp=>?_,dA I1.hok fr ⟨hz,its,r,⟨_,e,rfl,0,rfl⟩⟩,I1.len⟩
 ·have u:=I1.base
  refine ⟨u.keep,u.slot,fun b' o' e n hx=>?_,u.there,fun b' xs e=>?_,fun b' o' u' e=>?_,fun b' ps e=>?_⟩
  ·have ne:b'≠T:=Nat.ne_of_lt (Nat.lt_of_lt_of_le (Heap.lt_size e) (Nat.le_trans I.sz hT))
   rw [al ne]; exact u.free b' o' e n hx
  ·rw [al (ap (u.tups b' xs e) fr)]; exact u.tups b' xs e
  ·rw [al (ap (u.frzs b' o' u' e) fr)]; exact u.frzs b' o' u' e
  ·obtain ⟨m,q⟩:=u.tbls b' ps e
   exact ⟨m,by rw [al (ap q fr)]; exact q⟩
 ·rw [al (Nat.ne_of_lt (Nat.lt_of_lt_of_le I.lt hT))]; exact I1.free
 ·obtain ⟨v',q⟩:=I.cell x c e
  rw [al (Nat.ne_of_lt (Nat.lt_of_lt_of_le q.lt hT))]; exact I1.freeC x c e
 ·obtain ⟨e,n,r⟩:=I1.pin p hp
  have lt:p.1 < s.heap.objs.size:=Heap.lt_size (I.pin p hp).1
  exact ⟨e,by rw [al (Nat.ne_of_lt (Nat.lt_of_lt_of_le lt hT))]; exact n,r⟩
theorem Inv.turnedL {h':Heap}{t':Nat}{ch:List Addr}(I:Inv X pins σ H s)(k:∀ b o,b ∉ ch->s.heap.get? b=some o->h'.get? b=some o)(hf:∀ b∈ch,c6 X pins H b):Inv X pins σ H { s with heap:=h',toks:=t' }:=by
 have nit:∀ b u,H b=some u->b ∉ ch:=fun b u e z=>by rw [(hf b z).1] at e; cases e
 refine I.step (g':=s.gens) (d':=s.drawn) (ch:=ch) (fun b hb=>?_) (fun b o _ _ hc e _=>k b o hc e) (fun b o _ _ hc e _=>⟨o.slots,k b o hc e⟩) (fun _ _ _ _ n=>n)
  (fun b o hc e=>⟨o,k b o hc e⟩) (fun _ _ e=>e) (fun _ _ _ e=>e) (fun b ps e=>⟨#[],by rw [e]; simp⟩) (fun m hm=>?_) (fun b u e=>?_) I.bare
 ·obtain ⟨f0,f1,f2,f3,f4,f5⟩:=hf b hb
  exact ⟨f3,f1,f4,f5⟩
 ·obtain ⟨o,es,ep,ho,r⟩:=hm
  exact ⟨o,es,ep,k _ o (fun z=>(hf _ z).2.1 rfl) ho,r⟩
 ·refine (I.hok b u e).stay (fun c v hc q=>k c v ?_ q) (fun _ q=>q) fun _ _ q=>q
  rcases hc with z | z
  ·rw [z]; exact nit b u e
  ·exact nit c _ z
end
noncomputable def Cz (K:Frag)(a:Addr):It :=
 ⟨fun i H=>∃ xs x,aO K H a xs∧xs[i]?=some x,fun i H x H'=>∃ T y,(∀ xs,aO K H a xs->xs[i]?=some y)∧H T=none∧x = .ref T∧H'=upd H T (.tup [.int i,y]),fun i H=>∃ xs,aO K H a xs∧xs.length≤i⟩
theorem ug {P:Program}{w:World}{K:Frag}{elts:List Expr}{x1:Nat}{tp:Pos}(a e it:Addr)(hne:e≠it):Turn P w K (.Tuple elts x1 tp) (Cz K a) [e,it] e (fun i h=>∃ old,IsEnum h e it i old∧h.IsListIter it a i) where
 mem:=by simp
 obj:=fun i h st b hb=>by
  obtain ⟨old,h1,o,h2,_,h3⟩:=st
  rcases (by simpa using hb:b=e∨b=it) with z | z
  ·subst z
   exact ⟨_,h1,fun v z=>by cases z⟩
  ·subst z
   exact ⟨o,h2,fun v z=>by rw [h3] at z; cases z⟩
 keep:=fun i h h' st k=>let ⟨old,h1,h2⟩:=st; ⟨old,k e (by simp) _ h1,h2.at fun o q=>k it (by simp) o q⟩
 item:=by
  intro X hP hw hK hc i pins s σ H E I hf st hg
  subst hP hw hK
  obtain ⟨xs,x,hq,hx⟩:=hg
  obtain ⟨its,rv,p,hz⟩:=I.list hq
  obtain ⟨u,hu,ru⟩:=rv.get hx
  obtain ⟨old,he,hit⟩:=st
  refine wpAny_pyNext_enum_item he hit p.isList (x:=u) (by simpa using hu) hne fun h' q1 q2 q3 q4 q5=>?_
  refine ⟨_,rfl,wpAny_letOwnedTupleGo_enum (s:={ s with heap:=h',toks:=s.toks + 1 }) q1 fun h2 q6 q7=>?_⟩
  have nse:s.heap.objs.size≠e:=Nat.ne_of_gt (Heap.lt_size he)
  have I1:Inv X pins σ H { s with heap:=h2,toks:=s.toks + 1 }:=I.turnedL (t':=s.toks + 1) (ch:=[e,it]) (fun b o hb z=>by
   have hb':b≠e∧b≠it:=by simpa using hb
   exact (q7.2 b hb'.1).trans (q5 b o hb'.1 hb'.2 z)) hf
  have tup:h2.get? s.heap.objs.size=some { cls:=.type "tuple",data:=.seq #[.int i s.toks,u] }:=(q7.2 _ nse).trans q3
  have fr:H s.heap.objs.size=none:=I.hok.fresh (Nat.le_refl _)
  have I2:=I.tupAt (xs:=[.int i,x]) (its:=[.int i s.toks,u]) I1 (Nat.le_refl _) tup (.cons ⟨_,rfl⟩ (.cons ru .nil)) (by show 2≤sizeLine; decide)
  refine ⟨.ref s.heap.objs.size,_,I2,rfl,⟨s.heap.objs.size,x,fun ys hy=>by rw [I.list_inj hy hq]; exact hx,fr,rfl,rfl⟩,⟨u,q6,q2.at fun o q=>(q7.2 _ (Ne.symm hne)).trans q⟩,fun b hb=>?_⟩
  have nb:b≠s.heap.objs.size:=by
   rcases (by simpa using hb:b=e∨b=it) with z | z
   ·subst z; exact Ne.symm nse
   ·subst z
    obtain ⟨o,q,_⟩:=hit
    exact Nat.ne_of_lt (Heap.lt_size q)
  rw [al nb]
  exact (hf b hb).1
 done:=by
  intro X hP hw hK hc i pins s σ H E I hf st hg
  subst hP hw hK
  obtain ⟨xs,hq,hx⟩:=hg
  obtain ⟨its,rv,p,hz⟩:=I.list hq
  have hl:=rv.length
  obtain ⟨old,he,hit⟩:=st
  obtain ⟨f0,f1,f2,f3,f4,f5⟩:=hf it (by simp)
  exact wpAny_pyNext_enum_end (I.ok.hd hc) he hit p.isList (by simp; omega) fun h' eb=>⟨rfl,I.turned (t':=s.toks) (fun b o hb e=>eb b o hb e) f0 f1 f3 f4 f5⟩
 self:=fun _ _ _ _ _ st h=>let ⟨old,h1,_⟩:=st; wpAny_pyIter_enum h1 h
noncomputable def Bk (K:Frag)(tl:TE):TI:=fun σ H R=>cf tl tNil σ H fun vs H1=>∃ a xs,vs=[.ref a]∧aO K H1 a xs∧R (Cz K a) H1
theorem xG {X:Cx}{l:Expr}{tl:TE}{elts:List Expr}{x1:Nat}{tp p pos:Pos}(hl:PE X l tl)(hg:Gl X "enumerate")(hm:X.mg "enumerate"=none)(hs:fL l=false:=by rfl):
 PI X (.Tuple elts x1 tp) (.Call (.Name "enumerate" p) [l] [] pos) (Bk X.K tl):=by
 intro pins s σ H R I h
 refine wpAny_Call_Name_kw (du I hg hm (by rfl) ?_ (by decide) (by decide))
 refine PyProof.Rows.callWith_type1 (bF (ag hl ad hs pos pins s σ H _ I h) fun us s1 ⟨vs,H1,I1,r1,a,xs,hv,hq,rr⟩=>?_) (bn hs) rfl
 subst hv
 obtain ⟨u,rfl,ru⟩:=dH r1
 cases (show u=Value.ref a from ru)
 obtain ⟨its,rv,pl,hz⟩:=I1.list hq
 refine call_enumerate_list pl.isList fun h' q1 q2 q3 q4=>?_
 have I2:Inv X pins σ H1 { s1 with heap:=h' }:=I1.kept (t':=s1.toks) q4
 refine wpAny_pyIter_enum (s:={ s1 with heap:=h' }) q1 ?_
 refine ⟨s1.heap.objs.size + 1,[s1.heap.objs.size + 1,s1.heap.objs.size],_,Cz X.K a,H1,rfl,I2,ug a _ _ (Nat.succ_ne_self _),⟨_,q1,q2⟩,fun b hb=>?_,rr⟩
 have hb':s1.heap.objs.size≤b:=by
  rcases (by simpa using hb:b=s1.heap.objs.size + 1∨b=s1.heap.objs.size) with z | z
  ·rw [z]; exact Nat.le_succ _
  ·rw [z]; exact Nat.le_refl _
 exact I1.fpOk hb' (I1.hok.fresh hb')
end L2
namespace Zp
open PySem PyProof.Rows
section
variable {prog:Program}{w:World}{A:Around}{E:Value->Shared->Prop}{s:Shared}
theorem j9 {it t:Addr}{i:Nat}{items:Array Value}{x:Value}{Q:Value->Shared->Prop}(hit:s.heap.IsTupleIter it t i)(ht:s.heap.IsTuple t items)(hx:items[i]?=some x)
 (hQ:∀ h',h'.IsTupleIter it t (i + 1)->Heap.SameBut it s.heap h'->Q x { s with heap:=h' }):wpAny (model prog w) A (Builtin.SmallTypes.nextOf (.ref it)) Q E s:=by
 obtain ⟨o,ho,hc,hd⟩:=id hit
 obtain ⟨ol,hol,_,nl,hdl⟩:=ht
 unfold Builtin.SmallTypes.nextOf
 refine wpAny_bind (wpAny_callSpecial?_slot (name:=Str.ofString "__next__") hit.typeIs F.slot_tuple_iterator_next (wpAny_call_entry F.slot_tuple_iterator_next hit.typeIs F.entry_tuple_iterator_next ?_ (F.args_tuple_iterator_next_1 _)))
 show wpAny _ _ (field (.ref it) 0 >>= _) _ _ s
 refine wpAny_bind (wpAny_field ho hd (x:=.ref t) rfl ?_)
 show wpAny _ _ (if (Value.ref t == Value.none)=true then _ else _) _ _ s
 rw [if_neg (show ¬ ((Value.ref t == Value.none)=true) from Bool.false_ne_true)]
 show wpAny _ _ (field (.ref it) 1 >>= _) _ _ s
 refine wpAny_bind (wpAny_field ho hd (x:=.int i 0) rfl ?_)
 show wpAny _ _ (seqItems? (.ref t) >>= _) _ _ s
 refine wpAny_bind (wpAny_seqItems hol hdl ?_)
 simp only [Int.toNat_natCast,hx]
 refine wpAny_bind (wpAny_setField ho hd (by simp) (wpAny_pure ⟨x,rfl,wpAny_pure (hQ _ ?_ (Heap.SameBut.update ..))⟩))
 exact ⟨_,Heap.get?_update_self _ ho (Obj.isFreed_of_fields (Obj.data_mapFields hd _)),(Obj.cls_mapFields ..).trans hc,by rw [Obj.data_mapFields hd]; simp [rawInt]⟩
theorem rF {it t:Addr}{i:Nat}{items:Array Value}{Q:Value->Shared->Prop}(hh:A.handled=none)(hit:s.heap.IsTupleIter it t i)(ht:s.heap.IsTuple t items)(hx:items[i]?=none)
 (hE:∀ h' e,Heap.ExtBut it s.heap h'->(∃ o,h'.get? e=some o∧o.cls = .type "StopIteration")->E (.ref e) { s with heap:=h' }):wpAny (model prog w) A (Builtin.SmallTypes.nextOf (.ref it)) Q E s:=by
 obtain ⟨o,ho,hc,hd⟩:=id hit
 obtain ⟨ol,hol,_,nl,hdl⟩:=ht
 unfold Builtin.SmallTypes.nextOf
 refine wpAny_bind (wpAny_callSpecial?_slot (name:=Str.ofString "__next__") hit.typeIs F.slot_tuple_iterator_next (wpAny_call_entry F.slot_tuple_iterator_next hit.typeIs F.entry_tuple_iterator_next ?_ (F.args_tuple_iterator_next_1 _)))
 show wpAny _ _ (field (.ref it) 0 >>= _) _ _ s
 refine wpAny_bind (wpAny_field ho hd (x:=.ref t) rfl ?_)
 show wpAny _ _ (if (Value.ref t == Value.none)=true then _ else _) _ _ s
 rw [if_neg (show ¬ ((Value.ref t == Value.none)=true) from Bool.false_ne_true)]
 show wpAny _ _ (field (.ref it) 1 >>= _) _ _ s
 refine wpAny_bind (wpAny_field ho hd (x:=.int i 0) rfl ?_)
 show wpAny _ _ (seqItems? (.ref t) >>= _) _ _ s
 refine wpAny_bind (wpAny_seqItems hol hdl ?_)
 simp only [Int.toNat_natCast,hx]
 refine wpAny_bind (wpAny_rule (wpAny_bind (wpAny_setField ho hd (by simp) ?_)))
 show wpAny _ _ (newExc (.type "StopIteration") [] >>= _) _ _ _
 refine wpAny_bind ?_
 simp only [newExc,newTuple]
 refine wpAny_bind (wpAny_newObj_type ?_ (by size_fits))
 refine wpAny_bind (m:=firstArgMember _ _) (wpAny_of_eq (a:=Value.none) (by first | rfl | (simp only [firstArgMember]; rfl)) ?_)
 refine wpAny_newObj_type ?_ (by size_fits)
 simp only [raiseNew]
 refine wpAny_bind (wpAny_handled ?_)
 first | rw [show A.in1.handled=none from hh] | rw [hh]
 refine wpAny_bind (wpAny_pure (wpAny_throw ?_))
 exact hE _ _ (((Heap.SameBut.update ..).extBut.push _).push _) ⟨_,Heap.get?_push_size _ rfl,rfl⟩
end
structure Apart (z TI TO i1 i2 l1 l2:Addr):Prop where
 TIz:TI≠z
 TOz:TO≠z
 i1z:i1≠z
 i2z:i2≠z
 TITO:TI≠TO
 TIi1:TI≠i1
 TIi2:TI≠i2
 TOi1:TO≠i1
 TOi2:TO≠i2
 i12:i1≠i2
 l1n:l1 ∉ [z,TO,i1,i2]
 l2n:l2 ∉ [z,TO,i1,i2]
structure Zs (h:Heap)(z TI TO i1 i2 l1 l2:Addr)(k:Nat):Prop where
 hz:IsZip h z TI TO .none
 hTI:IsPair h TI (.ref i1) (.ref i2)
 hTO:∃ a b,IsPair h TO a b
 h1:h.IsTupleIter i1 l1 k
 h2:h.IsTupleIter i2 l2 k
theorem fY {h h':Heap}{i l:Addr}{k:Nat}(x:h.IsTupleIter i l k)(q:∀ o,h.get? i=some o->h'.get? i=some o):h'.IsTupleIter i l k:=let ⟨o,a,b⟩:=x; ⟨o,q o a,b⟩
section
variable {prog:Program}{w:World}{A:Around}{E:Value->Shared->Prop}{s:Shared}{z TI TO i1 i2 l1 l2:Addr}{k:Nat}{xs ys:Array Value}{x y:Value}
theorem item {Q:Value->Shared->Prop}(D:Apart z TI TO i1 i2 l1 l2)(Z:Zs s.heap z TI TO i1 i2 l1 l2 k)(hl1:s.heap.IsTuple l1 xs)(hl2:s.heap.IsTuple l2 ys)(hx:xs[k]?=some x)(hy:ys[k]?=some y)
 (hQ:∀ h',IsZip h' z TI TO (rawInt s.heap.objs.size)->(∃ a b,IsPair h' TO a b)->h'.IsTupleIter i1 l1 (k + 1)->h'.IsTupleIter i2 l2 (k + 1)->IsPair h' s.heap.objs.size x y →
  (∀ c o,c ∉ [z,TO,i1,i2]->s.heap.get? c=some o->h'.get? c=some o)->Q (.ref s.heap.objs.size) { s with heap:=h' }):
 wpAny (model prog w) A (Builtin.«zip.__next__» ⟨[.ref z],[]⟩) (fun fin s'=>∃ v,fin = .done (.ret v)∧Q v s') E s:=by
 obtain ⟨hz,hTI,⟨a,b,hTO⟩,h1,h2⟩:=Z
 have n1:l1≠z∧l1≠TO∧l1≠i1∧l1≠i2:=by simpa using D.l1n
 have n2:l2≠z∧l2≠TO∧l2≠i1∧l2≠i2:=by simpa using D.l2n
 show wpAny _ _ (field (.ref z) 2 >>= _) _ _ _
 refine wpAny_bind (wpAny_field hz rfl (x:=.bool false) rfl ?_)
 show wpAny _ _ (field (.ref z) 3 >>= _) _ _ _
 refine wpAny_bind (wpAny_field hz rfl (x:=.ref TI) rfl ?_)
 refine wpAny_bind (wpAny_seqItems hTI rfl ?_)
 show wpAny _ _ (Builtin.SmallTypes.ownedTupleIsFree (.ref z) >>= _) _ _ _
 refine wpAny_bind ?_
 unfold Builtin.SmallTypes.ownedTupleIsFree
 refine wpAny_bind (wpAny_field hz rfl (x:=.none) rfl (wpAny_pure ?_))
 simp only [if_true]
 refine wpAny_bind (wpAny_rule ?_)
 refine wpAny_bind (wpAny_field hz rfl (x:=.ref TO) rfl ?_)
 refine wpAny_bind (wpAny_setField_rec hz (by simp) fun g1 hz1 s1=>?_)
 replace hz1:IsZip g1 z TI TO .ellipsis:=hz1
 refine wpAny_bind ?_
 simp only [List.zipIdx_cons,List.zipIdx_nil,List.forIn_cons,List.forIn_nil]
 refine wpAny_bind (wpAny_bind (wpAny_onRaise ?_))
 show wpAny _ _ (Builtin.SmallTypes.nextOf (.ref i1) >>= _) _ _ _
 refine wpAny_bind (j9 (h1.extBut s1.extBut D.i1z) (hl1.extBut s1.extBut n1.1) hx fun g2 a2 s2=>wpAny_pure ?_)
 have t2:IsPair g2 TO a b:=s2.extBut _ _ D.TOi1 (s1.extBut _ _ D.TOz hTO)
 refine wpAny_bind (wpAny_seqItems t2 rfl ?_)
 refine wpAny_bind (wpAny_updateSeq_pair t2 fun g3 t3 s3=>?_)
 replace t3:IsPair g3 TO x b:=t3
 refine wpAny_bind (wpAny_letGo (wpAny_pure ?_))
 refine wpAny_bind (wpAny_bind (wpAny_onRaise ?_))
 show wpAny _ _ (Builtin.SmallTypes.nextOf (.ref i2) >>= _) _ _ _
 refine wpAny_bind (j9 (((h2.extBut s1.extBut D.i2z).extBut s2.extBut D.i12.symm).extBut s3.extBut D.TOi2.symm) (((hl2.extBut s1.extBut n2.1).extBut s2.extBut n2.2.2.1).extBut s3.extBut n2.2.1) hy fun g4 a4 s4=>wpAny_pure ?_)
 have t4:IsPair g4 TO x b:=s4.extBut _ _ D.TOi2 t3
 refine wpAny_bind (wpAny_seqItems t4 rfl ?_)
 refine wpAny_bind (wpAny_updateSeq_pair t4 fun g5 t5 s5=>?_)
 replace t5:IsPair g5 TO x y:=t5
 refine wpAny_bind (wpAny_letGo (wpAny_pure (wpAny_pure ?_)))
 refine wpAny_bind (wpAny_seqItems t5 rfl ?_)
 refine wpAny_bind (wpAny_newTuple ?_)
 have sz:g5.objs.size=s.heap.objs.size:=by rw [s5.1,s4.1,s3.1,s2.1,s1.1]
 have z5:IsZip g5 z TI TO .ellipsis:=s5.extBut _ _ D.TOz.symm (s4.extBut _ _ D.i2z.symm (s3.extBut _ _ D.TOz.symm (s2.extBut _ _ D.i1z.symm hz1)))
 have k5:∀ c o,c ∉ [z,TO,i1,i2]->s.heap.get? c=some o->g5.get? c=some o:=fun c o hc e=>by
  have hc':c≠z∧c≠TO∧c≠i1∧c≠i2:=by simpa using hc
  exact s5.extBut _ _ hc'.2.1 (s4.extBut _ _ hc'.2.2.2 (s3.extBut _ _ hc'.2.1 (s2.extBut _ _ hc'.2.2.1 (s1.extBut _ _ hc'.1 e))))
 have a5:g5.IsTupleIter i1 l1 (k + 1):=((a2.extBut s3.extBut D.TOi1.symm).extBut s4.extBut D.i12).extBut s5.extBut D.TOi1.symm
 have b5:g5.IsTupleIter i2 l2 (k + 1):=a4.extBut s5.extBut D.TOi2.symm
 have zlt:z < g5.objs.size:=Heap.lt_size z5
 show wpAny _ _ (Builtin.SmallTypes.ownedTupleHandOut (.ref z) (.ref g5.objs.size) >>= _) _ _ _
 refine wpAny_bind ?_
 unfold Builtin.SmallTypes.ownedTupleHandOut
 have z6:IsZip (g5.push { cls:=.type "tuple",data:=.seq #[x,y] }) z TI TO .ellipsis:=Heap.get?_push_of_some _ z5
 refine wpAny_bind (wpAny_setField_rec z6 (by simp) fun g7 z7 s7=>?_)
 replace z7:IsZip g7 z TI TO (rawInt g5.objs.size):=z7
 refine wpAny_setField_rec z7 (by simp) fun g8 z8 s8=>?_
 replace z8:IsZip g8 z TI TO (rawInt g5.objs.size):=z8
 have up:∀ c o,c≠z->g5.get? c=some o->g8.get? c=some o:=fun c o c1 e=>s8.extBut _ _ c1 (s7.extBut _ _ c1 (Heap.get?_push_of_some _ e))
 have t8:IsPair g8 g5.objs.size x y:=s8.extBut _ _ (Nat.ne_of_gt zlt) (s7.extBut _ _ (Nat.ne_of_gt zlt) (Heap.get?_push_size _ rfl))
 rw [sz] at z8 t8
 refine wpAny_pure ⟨_,rfl,?_⟩
 show Q (.ref g5.objs.size) _
 rw [sz]
 exact hQ g8 z8 ⟨x,y,up _ _ D.TOz t5⟩ (fY a5 fun o e=>up _ o D.i1z e) (fY b5 fun o e=>up _ o D.i2z e) t8 fun c o hc e=>up c o (fun q=>hc (by simp [q])) (k5 c o hc e)
theorem B8 {Q:Fin->Shared->Prop}(hh:A.handled=none)(D:Apart z TI TO i1 i2 l1 l2)(Z:Zs s.heap z TI TO i1 i2 l1 l2 k)(hl1:s.heap.IsTuple l1 xs)(hl2:s.heap.IsTuple l2 ys)(hend:xs[k]?=none∨ys[k]?=none)
 (hE:∀ h' e,(∀ c o,c ∉ [z,TO,i1,i2]->s.heap.get? c=some o->h'.get? c=some o)->(∃ o,h'.get? e=some o∧o.cls = .type "StopIteration")->E (.ref e) { s with heap:=h' }):
 wpAny (model prog w) A (Builtin.«zip.__next__» ⟨[.ref z],[]⟩) Q E s:=by
 obtain ⟨hz,hTI,⟨a,b,hTO⟩,h1,h2⟩:=Z
 have n1:l1≠z∧l1≠TO∧l1≠i1∧l1≠i2:=by simpa using D.l1n
 have n2:l2≠z∧l2≠TO∧l2≠i1∧l2≠i2:=by simpa using D.l2n
 show wpAny _ _ (field (.ref z) 2 >>= _) _ _ _
 refine wpAny_bind (wpAny_field hz rfl (x:=.bool false) rfl ?_)
 show wpAny _ _ (field (.ref z) 3 >>= _) _ _ _
 refine wpAny_bind (wpAny_field hz rfl (x:=.ref TI) rfl ?_)
 refine wpAny_bind (wpAny_seqItems hTI rfl ?_)
 show wpAny _ _ (Builtin.SmallTypes.ownedTupleIsFree (.ref z) >>= _) _ _ _
 refine wpAny_bind ?_
 unfold Builtin.SmallTypes.ownedTupleIsFree
 refine wpAny_bind (wpAny_field hz rfl (x:=.none) rfl (wpAny_pure ?_))
 simp only [if_true]
 refine wpAny_bind (wpAny_rule ?_)
 refine wpAny_bind (wpAny_field hz rfl (x:=.ref TO) rfl ?_)
 refine wpAny_bind (wpAny_setField_rec hz (by simp) fun g1 hz1 s1=>?_)
 replace hz1:IsZip g1 z TI TO .ellipsis:=hz1
 refine wpAny_bind ?_
 simp only [List.zipIdx_cons,List.zipIdx_nil,List.forIn_cons,List.forIn_nil]
 refine wpAny_bind (wpAny_bind (wpAny_onRaise ?_))
 show wpAny _ _ (Builtin.SmallTypes.nextOf (.ref i1) >>= _) _ _ _
 cases hx:xs[k]? with
 | none =>
   refine wpAny_bind (rF hh (h1.extBut s1.extBut D.i1z) (hl1.extBut s1.extBut n1.1) hx fun g2 e s2 he=>?_)
   obtain ⟨oe,hoe,hce⟩:=he
   have z2:IsZip g2 z TI TO .ellipsis:=s2 _ _ D.i1z.symm hz1
   have ez:e≠z:=fun q=>by subst q; rw [z2] at hoe; cases hoe; simp at hce
   refine wpAny_setField_rec z2 (by simp) fun g3 _ s3=>hE g3 e (fun c o hc q=>?_) ⟨oe,s3.extBut _ _ ez hoe,hce⟩
   have hc':c≠z∧c≠TO∧c≠i1∧c≠i2:=by simpa using hc
   exact s3.extBut _ _ hc'.1 (s2 _ _ hc'.2.2.1 (s1.extBut _ _ hc'.1 q))
 | some x =>
   have hy:ys[k]?=none:=by
    rcases hend with h | h
    ·rw [hx] at h; cases h
    ·exact h
   refine wpAny_bind (j9 (h1.extBut s1.extBut D.i1z) (hl1.extBut s1.extBut n1.1) hx fun g2 a2 s2=>wpAny_pure ?_)
   have t2:IsPair g2 TO a b:=s2.extBut _ _ D.TOi1 (s1.extBut _ _ D.TOz hTO)
   refine wpAny_bind (wpAny_seqItems t2 rfl ?_)
   refine wpAny_bind (wpAny_updateSeq_pair t2 fun g3 t3 s3=>?_)
   refine wpAny_bind (wpAny_letGo (wpAny_pure ?_))
   refine wpAny_bind (wpAny_bind (wpAny_onRaise ?_))
   show wpAny _ _ (Builtin.SmallTypes.nextOf (.ref i2) >>= _) _ _ _
   refine wpAny_bind (rF hh (((h2.extBut s1.extBut D.i2z).extBut s2.extBut D.i12.symm).extBut s3.extBut D.TOi2.symm) (((hl2.extBut s1.extBut n2.1).extBut s2.extBut n2.2.2.1).extBut s3.extBut n2.2.1) hy fun g4 e s4 he=>?_)
   obtain ⟨oe,hoe,hce⟩:=he
   have z4:IsZip g4 z TI TO .ellipsis:=s4 _ _ D.i2z.symm (s3.extBut _ _ D.TOz.symm (s2.extBut _ _ D.i1z.symm hz1))
   have ez:e≠z:=fun q=>by subst q; rw [z4] at hoe; cases hoe; simp at hce
   refine wpAny_setField_rec z4 (by simp) fun g5 _ s5=>hE g5 e (fun c o hc q=>?_) ⟨oe,s5.extBut _ _ ez hoe,hce⟩
   have hc':c≠z∧c≠TO∧c≠i1∧c≠i2:=by simpa using hc
   exact s5.extBut _ _ hc'.1 (s4 _ _ hc'.2.2.2 (s3.extBut _ _ hc'.2.1 (s2.extBut _ _ hc'.2.2.1 (s1.extBut _ _ hc'.1 q))))
theorem uT {Q:Option Value->Shared->Prop}(D:Apart z TI TO i1 i2 l1 l2)(Z:Zs s.heap z TI TO i1 i2 l1 l2 k)(hl1:s.heap.IsTuple l1 xs)(hl2:s.heap.IsTuple l2 ys)(hx:xs[k]?=some x)(hy:ys[k]?=some y)
 (hQ:∀ h',IsZip h' z TI TO (rawInt s.heap.objs.size)->(∃ a b,IsPair h' TO a b)->h'.IsTupleIter i1 l1 (k + 1)->h'.IsTupleIter i2 l2 (k + 1)->IsPair h' s.heap.objs.size x y →
  (∀ c o,c ∉ [z,TO,i1,i2]->s.heap.get? c=some o->h'.get? c=some o)->Q (some (.ref s.heap.objs.size)) { s with heap:=h' }):
 wpAny (model prog w) A (pyNext (.ref z)) Q E s:=by
 have hT:s.TypeIs (.ref z) "zip":=⟨_,Z.hz,rfl⟩
 unfold pyNext
 exact wpAny_bind (wpAny_attempt (wpAny_callSpecial?_slot (name:=Str.ofString "__next__") hT F.slot_zip_next
  (wpAny_call_entry F.slot_zip_next hT F.entry_zip_next (item D Z hl1 hl2 hx hy fun h' a1 a2 a3 a4 a5 a6=>wpAny_pure (hQ h' a1 a2 a3 a4 a5 a6)) (F.args_zip_next_1 _))))
theorem uA {Q:Option Value->Shared->Prop}(hh:A.handled=none)(D:Apart z TI TO i1 i2 l1 l2)(Z:Zs s.heap z TI TO i1 i2 l1 l2 k)(hl1:s.heap.IsTuple l1 xs)(hl2:s.heap.IsTuple l2 ys)(hend:xs[k]?=none∨ys[k]?=none)
 (hQ:∀ h',(∀ c o,c ∉ [z,TO,i1,i2]->s.heap.get? c=some o->h'.get? c=some o)->Q none { s with heap:=h' }):wpAny (model prog w) A (pyNext (.ref z)) Q E s:=by
 have hT:s.TypeIs (.ref z) "zip":=⟨_,Z.hz,rfl⟩
 unfold pyNext
 refine wpAny_bind (wpAny_attempt (wpAny_callSpecial?_slot (name:=Str.ofString "__next__") hT F.slot_zip_next
  (wpAny_call_entry F.slot_zip_next hT F.entry_zip_next (B8 hh D Z hl1 hl2 hend fun h' e hk he=>?_) (F.args_zip_next_1 _))))
 obtain ⟨o,ho,hc⟩:=he
 refine wpAny_bind (wpAny_isInstance (T:="StopIteration") (b:=true) ⟨o,ho,hc⟩ isSubtype_stop ?_)
 exact wpAny_pure (hQ _ hk)
end
noncomputable abbrev g1 (h:Heap)(l1:Addr):Heap:=h.push { cls:=.type "tuple_iterator",data:=.fields #[.ref l1,.int 0 0] }
noncomputable abbrev g2 (h:Heap)(l1 l2:Addr):Heap:=(g1 h l1).push { cls:=.type "tuple_iterator",data:=.fields #[.ref l2,.int 0 0] }
noncomputable abbrev g3 (h:Heap)(l1 l2:Addr):Heap:=(g2 h l1 l2).push { cls:=.type "tuple",data:=.seq #[.ref h.objs.size,.ref (g1 h l1).objs.size] }
noncomputable abbrev g4 (h:Heap)(l1 l2:Addr):Heap:=(g3 h l1 l2).push { cls:=.type "tuple",data:=.seq #[.none,.none] }
noncomputable abbrev g5 (h:Heap)(l1 l2:Addr):Heap:=(g4 h l1 l2).push { cls:=.type "zip",data:=.fields #[.none,.bool false,.bool false,.ref (g2 h l1 l2).objs.size,.ref (g3 h l1 l2).objs.size] }
theorem uN (l1 l2:Addr)(xs ys:Array Value):
 Meets (Builtin.«zip.__new__» ⟨[.type "zip",.ref l1,.ref l2],[]⟩) (fun _ R s=>s.heap.IsTuple l1 xs∧s.heap.IsTuple l2 ys∧R (.ok (.ret (.ref (g4 s.heap l1 l2).objs.size))) { s with heap:=g5 s.heap l1 l2 }):=
 .of_wp fun prog w A R s h=>by
  obtain ⟨hp,g,d,tk,os⟩:=s; obtain ⟨hl1,hl2,h⟩:=h
  have hsub:=sub_zip
  have hL1:Heap.IsTuple (Shared.heap ⟨hp,g,d,tk,os⟩) l1 xs:=hl1
  have hL2:Heap.IsTuple (Shared.heap ⟨hp.push { cls:=.type "tuple_iterator",data:=.fields #[.ref l1,.int 0 0] },g,d,tk,os⟩) l2 ys:=Heap.IsTuple.push hl2 _
  wp_walk using wpAny_pyIter_tuple hL1,wpAny_pyIter_tuple hL2
  exact ⟨_,rfl,h⟩
section
variable {prog:Program}{w:World}{A:Around}{E:Value->Shared->Prop}{s:Shared}
theorem Ba {l1 l2:Addr}{xs ys:Array Value}{Q:Value->Shared->Prop}(hl1:s.heap.IsTuple l1 xs)(hl2:s.heap.IsTuple l2 ys)
 (h:∀ h',Zs h' (s.heap.objs.size + 4) (s.heap.objs.size + 2) (s.heap.objs.size + 3) s.heap.objs.size (s.heap.objs.size + 1) l1 l2 0->(∀ c o,s.heap.get? c=some o->h'.get? c=some o)->Q (.ref (s.heap.objs.size + 4)) { s with heap:=h' }):
 wpAny (model prog w) A (call (.type "zip") [.ref l1,.ref l2]) Q E s:=by
 refine callType_new F.called_zip (by decide) (F.typeCall_zip_2 _ _) (F.newCall_zip_2 _ _) (fun obj=>F.args_object_init_3 obj _ _) F.entry_zip_new (uN l1 l2 xs ys) ⟨hl1,hl2,?_⟩
 have z1:(g1 s.heap l1).objs.size=s.heap.objs.size + 1:=Heap.size_push ..
 have z2:(g2 s.heap l1 l2).objs.size=s.heap.objs.size + 2:=by rw [Heap.size_push,z1]
 have z3:(g3 s.heap l1 l2).objs.size=s.heap.objs.size + 3:=by rw [Heap.size_push,z2]
 have z4:(g4 s.heap l1 l2).objs.size=s.heap.objs.size + 4:=by rw [Heap.size_push,z3]
 have q5:(g5 s.heap l1 l2).get? (g4 s.heap l1 l2).objs.size=some _:=Heap.get?_push_size _ rfl
 have q4:(g5 s.heap l1 l2).get? (g3 s.heap l1 l2).objs.size=some _:=Heap.get?_push_of_some _ (Heap.get?_push_size _ rfl)
 have q3:(g5 s.heap l1 l2).get? (g2 s.heap l1 l2).objs.size=some _:=Heap.get?_push_of_some _ (Heap.get?_push_of_some _ (Heap.get?_push_size _ rfl))
 have q2:(g5 s.heap l1 l2).get? (g1 s.heap l1).objs.size=some _:=Heap.get?_push_of_some _ (Heap.get?_push_of_some _ (Heap.get?_push_of_some _ (Heap.get?_push_size _ rfl)))
 have q1:(g5 s.heap l1 l2).get? s.heap.objs.size=some _:=Heap.get?_push_of_some _ (Heap.get?_push_of_some _ (Heap.get?_push_of_some _ (Heap.get?_push_of_some _ (Heap.get?_push_size _ rfl))))
 show _∧_
 rw [z2,z3,z4] at q5
 rw [z1,z2] at q3
 rw [z3] at q4
 rw [z1] at q2
 rw [z4]
 exact ⟨⟨_,q5,rfl⟩,h _ ⟨q5,q3,⟨_,_,q4⟩,⟨_,q1,rfl,rfl⟩,⟨_,q2,rfl,rfl⟩⟩ fun c o e=>Heap.get?_push_of_some _ (Heap.get?_push_of_some _ (Heap.get?_push_of_some _ (Heap.get?_push_of_some _ (Heap.get?_push_of_some _ e))))⟩
end
theorem cq {a b:Nat}(h:a≠b):(a:Addr)≠b:=h
theorem vf (n a b:Nat)(ha:a < n)(hb:b < n):Apart (n + 4) (n + 2) (n + 3) n (n + 1) a b:=by
 refine ⟨cq ?_,cq ?_,cq ?_,cq ?_,cq ?_,cq ?_,cq ?_,cq ?_,cq ?_,cq ?_,?_,?_⟩
 any_goals omega
 ·simp only [List.mem_cons,List.not_mem_nil,or_false,not_or]
  exact ⟨cq (by omega),cq (by omega),cq (by omega),cq (by omega)⟩
 ·simp only [List.mem_cons,List.not_mem_nil,or_false,not_or]
  exact ⟨cq (by omega),cq (by omega),cq (by omega),cq (by omega)⟩
end Zp
namespace L2
open PySem PySem.Spec PyProof.Rows PySem.W
noncomputable def BE (K:Frag)(a b:Addr):It :=
 ⟨fun i H=>∃ xs ys x y,bc K H a xs∧bc K H b ys∧xs[i]?=some x∧ys[i]?=some y,
  fun i H v H'=>∃ T x y,(∀ xs,bc K H a xs->xs[i]?=some x)∧(∀ ys,bc K H b ys->ys[i]?=some y)∧H T=none∧v = .ref T∧H'=upd H T (.tup [x,y]),
  fun i H=>∃ xs ys,bc K H a xs∧bc K H b ys∧(xs.length≤i∨ys.length≤i)⟩
theorem v5 {P:Program}{w:World}{K:Frag}{elts:List Expr}{x1:Nat}{tp:Pos}{a b z TI TO i1 i2:Addr}(D:Zp.Apart z TI TO i1 i2 a b):
 Turn P w K (.Tuple elts x1 tp) (BE K a b) [z,TO,i1,i2,TI] z (fun i h=>Zp.Zs h z TI TO i1 i2 a b i) where
 mem:=by simp
 obj:=fun i h st c hb=>by
  obtain ⟨h1,h2,⟨_,_,h3⟩,⟨o4,h4,_,d4⟩,⟨o5,h5,_,d5⟩⟩:=st
  rcases (by simpa using hb:c=z∨c=TO∨c=i1∨c=i2∨c=TI) with q | q | q | q | q
  ·subst q; exact ⟨_,h1,fun v q=>by cases q⟩
  ·subst q; exact ⟨_,h3,fun v q=>by cases q⟩
  ·subst q; exact ⟨_,h4,fun v q=>by rw [d4] at q; cases q⟩
  ·subst q; exact ⟨_,h5,fun v q=>by rw [d5] at q; cases q⟩
  ·subst q; exact ⟨_,h2,fun v q=>by cases q⟩
 keep:=fun i h h' st k=>by
  obtain ⟨h1,h2,⟨_,_,h3⟩,h4,h5⟩:=st
  exact ⟨k z (by simp) _ h1,k TI (by simp) _ h2,⟨_,_,k TO (by simp) _ h3⟩,Zp.fY h4 fun o q=>k i1 (by simp) o q,Zp.fY h5 fun o q=>k i2 (by simp) o q⟩
 item:=by
  intro X hP hw hK hc i pins s σ H E I hf st hg
  subst hP hw hK
  obtain ⟨xs,ys,x,y,hq,hr,hx,hy⟩:=hg
  obtain ⟨its,rv,p,hz⟩:=I.tuple hq
  obtain ⟨jts,rw',p',hz'⟩:=I.tuple hr
  obtain ⟨u,hu,ru⟩:=rv.get hx
  obtain ⟨v,hv,ru'⟩:=rw'.get hy
  refine Zp.uT D st (show s.heap.IsTuple a its.toArray from p) (show s.heap.IsTuple b jts.toArray from p') (x:=u) (y:=v) (by simpa using hu) (by simpa using hv) fun h' q1 q2 q3 q4 q5 q6=>?_
  refine ⟨_,rfl,wpAny_letOwnedTupleGo_zip (s:={ s with heap:=h' }) q1 fun h2 q7 q8=>?_⟩
  have lt:∀ c o,s.heap.get? c=some o->c≠s.heap.objs.size:=fun c o e=>Nat.ne_of_lt (Heap.lt_size e)
  have I1:Inv X pins σ H { s with heap:=h2 }:=I.turnedL (t':=s.toks) (ch:=[z,TO,i1,i2]) (fun c o hc e=>(q8.2 c fun q=>hc (by simp [q])).trans (q6 c o hc e)) fun c hc=>hf c (by
   rcases (by simpa using hc:c=z∨c=TO∨c=i1∨c=i2) with q | q | q | q <;> simp [q])
  have nz:s.heap.objs.size≠z:=Ne.symm (lt z _ st.hz)
  have tup:h2.get? s.heap.objs.size=some { cls:=.type "tuple",data:=.seq #[u,v] }:=(q8.2 _ nz).trans q5
  have fr:H s.heap.objs.size=none:=I.hok.fresh (Nat.le_refl _)
  have I2:=I.tupAt (xs:=[x,y]) (its:=[u,v]) I1 (Nat.le_refl _) tup (.cons ru (.cons ru' .nil)) (by show 2≤sizeLine; decide)
  have up:∀ c o,c≠z->h'.get? c=some o->h2.get? c=some o:=fun c o hc e=>(q8.2 c hc).trans e
  obtain ⟨aa,bb,q2⟩:=q2
  have hTI':IsPair h' TI (.ref i1) (.ref i2):=q6 TI _ (by simp only [List.mem_cons,List.not_mem_nil,or_false,not_or]; exact ⟨D.TIz,D.TITO,D.TIi1,D.TIi2⟩) st.hTI
  refine ⟨.ref s.heap.objs.size,_,I2,rfl,⟨s.heap.objs.size,x,y,fun zs hy'=>by rw [I.tuple_inj hy' hq]; exact hx,fun zs hy'=>by rw [I.tuple_inj hy' hr]; exact hy,fr,rfl,rfl⟩,
   ⟨q7,up _ _ D.TIz hTI',⟨aa,bb,up _ _ D.TOz q2⟩,Zp.fY q3 fun o e=>up _ o D.i1z e,Zp.fY q4 fun o e=>up _ o D.i2z e⟩,fun c hb=>?_⟩
  have nb:c≠s.heap.objs.size:=by
   obtain ⟨h1,h2,⟨_,_,h3⟩,⟨o4,h4,_,d4⟩,⟨o5,h5,_,d5⟩⟩:=st
   rcases (by simpa using hb:c=z∨c=TO∨c=i1∨c=i2∨c=TI) with q | q | q | q | q <;> subst q
   ·exact lt _ _ h1
   ·exact lt _ _ h3
   ·exact lt _ _ h4
   ·exact lt _ _ h5
   ·exact lt _ _ h2
  rw [al nb]
  exact (hf c hb).1
 done:=by
  intro X hP hw hK hc i pins s σ H E I hf st hg
  subst hP hw hK
  obtain ⟨xs,ys,hq,hr,hx⟩:=hg
  obtain ⟨its,rv,p,hz⟩:=I.tuple hq
  obtain ⟨jts,rw',p',hz'⟩:=I.tuple hr
  have l1:=rv.length
  have l2:=rw'.length
  refine Zp.uA (I.ok.hd hc) D st (show s.heap.IsTuple a its.toArray from p) (show s.heap.IsTuple b jts.toArray from p') (by
   rcases hx with q | q
   ·left; simp; omega
   ·right; simp; omega) fun h' q=>⟨rfl,?_⟩
  exact I.turnedL (t':=s.toks) (ch:=[z,TO,i1,i2]) q fun c hc=>hf c (by
   rcases (by simpa using hc:c=z∨c=TO∨c=i1∨c=i2) with q | q | q | q <;> simp [q])
 self:=fun _ _ _ _ _ st h=>wpAny_pyIter_zip st.hz h
noncomputable def Cb (K:Frag)(ta tb:TE):TI:=fun σ H R=>cf ta (cf tb tNil) σ H fun vs H1=>∃ a b xs ys,vs=[.ref a,.ref b]∧bc K H1 a xs∧bc K H1 b ys∧R (BE K a b) H1
theorem Ak {X:Cx}{ea eb:Expr}{ta tb:TE}{elts:List Expr}{x1:Nat}{tp p pos:Pos}(ha:PE X ea ta)(hb:PE X eb tb)(hg:Gl X "zip")(hm:X.mg "zip"=none)(hs:fL ea=false:=by rfl)(hs':fL eb=false:=by rfl):
 PI X (.Tuple elts x1 tp) (.Call (.Name "zip" p) [ea,eb] [] pos) (Cb X.K ta tb):=by
 intro pins s σ H R I h
 refine wpAny_Call_Name_kw (du I hg hm (by rfl) ?_ (by decide) (by decide))
 refine PyProof.Rows.callWith_type1 (bF (ag ha (ag hb ad hs') hs pos pins s σ H _ I h) fun us s1 ⟨vs,H1,I1,r1,a,b,xs,ys,hv,hq,hr,rr⟩=>?_) (bn hs) (by rw [bn hs']; rfl)
 subst hv
 obtain ⟨u,u',rfl,ru,ru'⟩:=wU r1
 cases (show u=Value.ref a from ru)
 cases (show u'=Value.ref b from ru')
 obtain ⟨its,rv,pl,hz⟩:=I1.tuple hq
 obtain ⟨jts,rw',pl',hz'⟩:=I1.tuple hr
 refine Zp.Ba (show s1.heap.IsTuple a its.toArray from pl) (show s1.heap.IsTuple b jts.toArray from pl') fun h' q1 q4=>?_
 have I2:Inv X pins σ H1 { s1 with heap:=h' }:=I1.kept (t':=s1.toks) q4
 have la:a < s1.heap.objs.size:=by obtain ⟨o,e,_⟩:=pl; exact Heap.lt_size e
 have lb:b < s1.heap.objs.size:=by obtain ⟨o,e,_⟩:=pl'; exact Heap.lt_size e
 refine wpAny_pyIter_zip (s:={ s1 with heap:=h' }) q1.hz ?_
 refine ⟨s1.heap.objs.size + 4,[s1.heap.objs.size + 4,s1.heap.objs.size + 3,s1.heap.objs.size,s1.heap.objs.size + 1,s1.heap.objs.size + 2],_,BE X.K a b,H1,rfl,I2,v5 (Zp.vf _ _ _ la lb),q1,fun c hc=>?_,rr⟩
 have hb':s1.heap.objs.size≤c:=by
  rcases (by simpa using hc:c=s1.heap.objs.size + 4∨c=s1.heap.objs.size + 3∨c=s1.heap.objs.size∨c=s1.heap.objs.size + 1∨c=s1.heap.objs.size + 2) with q | q | q | q | q <;> rw [q]
  ·exact Nat.le_add_right _ _
  ·exact Nat.le_add_right _ _
  ·exact Nat.le_refl _
  ·exact Nat.le_add_right _ _
  ·exact Nat.le_add_right _ _
 exact I1.fpOk hb' (I1.hok.fresh hb')
end L2
namespace K07
open PySem L2 PySem.W
noncomputable abbrev CN:Stmt:=a9 (aY 38) 1
noncomputable abbrev wF:Stmt:=aY 13
noncomputable abbrev gL:Stmt:=aY 14
noncomputable def AT (C:Addr):Sp:=fun vs H Q _=>∃ (p dx:Addr)(i:Int)(y:V),vs=[.ref p,y]∧H p=some (.ins C dx (gu i)) ∧
 ((∃ q dy j,y = .ref q∧H q=some (.ins C dy (gu j))∧Q (.bl (decide (i=j))) H)∨∃ T,Th H y T∧Q (.bl false) H)
noncomputable def aS:V->Bool
 | .int i=>decide (0≤i)&&decide (i < 60)
 | _=>false
noncomputable def spPlace:Sp:=fun vs H Q _=>∃ x T,vs=[x]∧Th H x T∧Q (.bl (aS x)) H
section
variable {P:Program}{w:World}{K:PySem.W.Frag}{mg:Str->Option Value}{base:Heap}
theorem Ca:FnScope ["self","other"] ["self","other"] (aj CN):=⟨rfl,rfl,rfl,by decide +kernel,rfl,by decide +kernel,by decide +kernel⟩
theorem AM {f C:Addr}{fd:FuncData}(F:Fun K "__eq__" "Field.__eq__" CN f fd)(c:FieldK K mg C)(n:Nones mg):FnOk P w K mg base (aU P w) 1 f fd ["self","other"] (AT C):=by
 refine F.okN Ca (fun vs H Q E h=>?_) (fun cdv A outer s H vs Q E hr h=>?_)
 ·obtain ⟨p,dx,i,y,rfl,_⟩:=h
  rfl
 ·obtain ⟨p,dx,i,y,rfl,hp,h⟩:=h
  refine ⟨_,am (av (dL (ar aN (by rfl) n.isi (by rfl) (aR (pv 1) (aR (di (by rfl) c.mgC (show aB (.ref C) (.ref C) from rfl)) ad)))
   (eO (cX cI (cp (pv 0) rfl) (cp (pv 1) rfl) (aG _))))),?_⟩
  rcases h with ⟨q,dy,j,rfl,hq,z⟩ | ⟨T,th,z⟩
  ·refine ⟨_,rfl,.ref q,.ref C,_,_,_,rfl,rfl,c.ty hq,c.is,_,rfl,?_⟩
   refine br ?_
   refine ⟨_,rfl,p,C,dx,_,_,rfl,hp,c.cl,c.nP,rfl,_,rfl,q,C,dy,_,_,rfl,hq,c.cl,c.nP,rfl,rfl,?_⟩
   have e:decide (V.int i=V.int j)=decide (i=j):=by simp
   rw [e]
   exact z
  ·exact ⟨_,rfl,y,.ref C,_,_,_,rfl,rfl,th.ty,c.no th,_,rfl,bx z⟩
theorem yr:FnScope ["thing"] ["thing"] (aj wF):=⟨rfl,rfl,rfl,by decide +kernel,rfl,by decide +kernel,by decide +kernel⟩
theorem wp {f fw:Addr}{fd fdw:FuncData}{tM:Tok}(F:Fun K "is_place" "is_place" wF f fd)(mMP:mg "MOST_PLACES"=some (.int 60 tM))
 (FW:FnOk P w K mg base (aU P w) 1 fw fdw ["thing"] spWhole)(bW:L2.ax K fdw ["thing"] [])(mW:mg "is_whole"=some (.ref fw))(kW:keepIn K (.ref fw)=true):FnOk P w K mg base (aU P w) 2 f fd ["thing"] spPlace:=by
 refine F.okN yr (fun vs H Q E h=>?_) (fun cdv A outer s H vs Q E hr h=>?_)
 ·obtain ⟨x,T,rfl,_⟩:=h
  rfl
 ·obtain ⟨x,T,rfl,th,q⟩:=h
  have hr1:Room 1 _:=hr.mono (by decide)
  refine ⟨_,am (av (dL (aq FW hr1 (by rfl) mW kW bW .nil ae (@ag _ _ _ _ _ (pv 0) ad rfl)) (eO (ky kh fM ah (pv 0) (di (by rfl) mMP (show aB (.int 60) (.int 60 tM) from ⟨_,rfl⟩)))))),?_⟩
  refine ⟨_,rfl,x,T,rfl,th,_,rfl,?_⟩
  cases e:cB x with
  | false =>
    have z:aS x=false:=by cases x <;> first | rfl | cases e
    rw [z] at q
    exact bx q
  | true =>
    have z1:∃ i,x = .int i:=by cases x <;> first | exact ⟨_,rfl⟩ | cases e
    obtain ⟨i,rfl⟩:=z1
    refine br ?_
    refine ⟨_,rfl,_,_,rfl,rfl,_,rfl,?_⟩
    refine b7 (fun h=>?_) (fun h=>?_)
    ·refine ⟨_,_,rfl,rfl,?_⟩
     have h':decide (0≤i)=true:=h
     have z:aS (.int i)=decide (i < 60):=by show (decide (0≤i)&&decide (i < 60))=_; rw [h',Bool.true_and]
     rw [z] at q
     exact q
    ·have h':decide (0≤i)=false:=by simpa using h
     have z:aS (.int i)=false:=by show (decide (0≤i)&&decide (i < 60))=_; rw [h',Bool.false_and]
     rw [z] at q
     exact q
end
end K07
namespace HT
open PySem PyProof.Rows
section
variable {prog:Program}{w:World}{A:Around}{E:Value->Shared->Prop}{s:Shared}
theorem gq {t sl:Addr}{items:Array Value}{vl vu:Value}{lo hi:Option Int}{Q:Value->Shared->Prop}(ht:IsTup s.heap t items)(hs:s.heap.IsSliceOf sl vl vu .none)(pl:IsPart vl lo)(pu:IsPart vu hi)
 (h0:c8 items.size 0 lo=0)(h1:c8 items.size items.size hi=items.size)(h:Q (.ref t) s):wpAny (model prog w) A (getItem (.ref t) (.ref sl)) Q E s:=by
 obtain ⟨os,hos,hcs,hds⟩:=id hs
 have hTs:s.TypeIs (.ref sl) "slice":=⟨os,hos,hcs⟩
 unfold getItem
 try with_reducible refine wpAny_holding ?_
 first | refine wpAny_bind (wpAny_pure ?_) | skip
 refine wpAny_bind (wpAny_sequenceKey ht.typeIs (by decide) ?_)
 refine wpAny_bind (wpAny_callSpecial?_slot (name:=Str.ofString "__getitem__") ht.typeIs PyProof.Rows.slot_tuple_getitem
  (wpAny_call_entry PyProof.Rows.slot_tuple_getitem ht.typeIs entry_tuple_getitem ?_ (args_tuple_getitem _ _)))
 show wpAny _ _ (Builtin.Tuple.tupleItemsOf (.ref t) >>= _) _ _ s
 refine wpAny_bind (tupleItemsOf_ ht ?_)
 refine wpAny_bind (wpAny_typeOf hTs ?_)
 rw [if_pos (by decide)]
 refine wpAny_bind (eG hs pl pu ?_)
 rw [h0,h1]
 have hyes:((((0:Nat):Int) == 0&&(1:Int) == 1&&(items.size - 0) == items.size)=true):=by simp
 dsimp only
 rw [if_pos hyes]
 show wpAny _ _ (Builtin.Tuple.tupleIsExact (.ref t) >>= _) _ _ s
 refine wpAny_bind ?_
 unfold Builtin.Tuple.tupleIsExact
 refine wpAny_bind (wpAny_typeOf ht.typeIs (wpAny_pure ?_))
 rw [if_pos (by decide)]
 refine wpAny_bind (wpAny_rule ?_)
 exact wpAny_pure ⟨_,rfl,wpAny_pure h⟩
end
end HT
namespace L2
open PySem PySem.Spec PyProof.Rows PySem.W
variable {X:Cx}
noncomputable def B0 (K:Frag):V->Option Int->Option Int->Hp->VK->Prop:=fun x lo hi H Q=>∃ a xs,x = .ref a∧bc K H a xs∧(eK xs lo hi=xs->Q (.ref a) H)∧∀ p,H p=none->Q (.ref p) (upd H p (.tup (eK xs lo hi)))
theorem qX:AI X (B0 X.K):=by
 intro pins s σ H x v vl vu lo hi sl Q I rx hs pl pu h
 obtain ⟨a,xs,rfl,hx,h1,h2⟩:=h
 by_cases hw:HT.c8 xs.length 0 lo=0∧HT.c8 xs.length xs.length hi=xs.length
 ·cases rx
  obtain ⟨its,r,ht,hz⟩:=I.tuple hx
  have hlen:its.toArray.size=xs.length:=by rw [List.size_toArray]; exact r.length.symm
  refine ⟨"tuple",_,PyProof.Rows.slot_tuple_getitem.lookup,ht.typeIs,?_⟩
  refine HT.gq ht hs pl pu (by rw [hlen]; exact hw.1) (by rw [hlen]; exact hw.2) ?_
  refine ⟨.ref a,H,I,rfl,h1 ?_⟩
  unfold eK
  rw [hw.1,hw.2]
  simp
 ·exact Aa pins s σ H (.ref a) v vl vu lo hi sl Q I rx hs pl pu ⟨a,xs,rfl,hx,hw,h2⟩
end L2
namespace K07
open PySem L2 PySem.W
inductive PX (H:Hp):V->Option (List V)->Prop where
 | no {x:V}{T:String}:Th H x T->T ≠ "tuple"->PX H x none
 | tup {a:Addr}{xs:List V}:H a=some (.tup xs)->xs.length < 4000->(∀ y∈xs,∃ T,Th H y T)->PX H (.ref a) (some xs)
noncomputable def AQ:V->V->Bool
 | .int a,.int b=>decide (a < b)
 | _,_=>false
noncomputable def iZ (xs:List V):Bool:=(xs.zip (xs.drop 1)).all fun p=>AQ p.1 p.2
noncomputable def jP:Option (List V)->Bool
 | none=>false
 | some xs=>xs.all aS&&iZ xs
noncomputable def spProduct:Sp:=fun vs H Q _=>∃ x o,vs=[x]∧PX H x o∧∀ H',au H H'->Q (.bl (jP o)) H'
theorem Be (xs:List V):eK xs (some 1) none=xs.drop 1:=by
 unfold eK HT.c8
 cases xs with
 | nil=>rfl
 | cons x xs=>simp
theorem uz:FnScope ["thing"] ["thing"] (aj gL):=⟨rfl,rfl,rfl,by decide +kernel,rfl,by decide +kernel,by decide +kernel⟩
theorem jH:∀ bs:List Bool,Paired AO (bs.map V.bl) bs
 | []=>.nil
 | b :: bs=>.cons rfl (jH bs)
section
variable {P:Program}{w:World}{K:PySem.W.Frag}{mg:Str->Option Value}{base:Heap}
theorem pK {f fp:Addr}{fd fdp:FuncData}(F:Fun K "is_product" "is_product" gL f fd)(m_isinstance:mg "isinstance"=none)(m_tuple:mg "tuple"=none)(m_all:mg "all"=none)(m_zip:mg "zip"=none)
 (FP:FnOk P w K mg base (aU P w) 2 fp fdp ["thing"] spPlace)(bP:L2.ax K fdp ["thing"] [])(mP:mg "is_place"=some (.ref fp))(kP:keepIn K (.ref fp)=true):FnOk P w K mg base (aU P w) 3 f fd ["thing"] spProduct:=by
 refine F.okN uz (fun vs H Q E h=>?_) (fun cdv A outer s H vs Q E hr h=>?_)
 ·obtain ⟨x,o,rfl,_⟩:=h
  rfl
 ·obtain ⟨x,o,rfl,px,q⟩:=h
  have hr2:Room 2 _:=hr.mono (by decide)
  refine ⟨_,(ai (a7 (PW.pt (dQ (bY (bw (ar aN (by rfl) m_isinstance (by rfl) (@ag _ _ _ _ _ (pv 0) (@ag _ _ _ _ _ (ck (by rfl) m_tuple (by rfl) (show aB (.ty "tuple") (.type "tuple") from rfl)) ad rfl) rfl)))) (cN (bY (bw (ar (fU rfl) (by rfl) m_all (by rfl) (@ag _ _ _ _ _ (cg (N:=["place"]) (nl:=1) (js:=[]) (osc:=aj gL) ⟨rfl,rfl,by decide +kernel,by decide +kernel,by decide +kernel,rfl,.nil,by decide +kernel⟩ rfl
   (iO (pv 0))
   (fun C fp s H=>aE (i:=0) (by show (["place"]:List Str).Nodup; decide +kernel) rfl (Or.inl rfl) (Or.inr rfl))
   (fun C fp s H=>cL)
   (fun C fp s H=>(aq FP hr2 (by rfl) mP kP bP .nil ae (@ag _ _ _ _ _ (pv 0) ad rfl)))) ad rfl))))))) (am (av c9)) aC)
   (am (av (ar (fU rfl) (by rfl) m_all (by rfl) (@ag _ _ _ _ _ (cg (g:=lz K 2 (cP (bD 0) (cP (bD 1) gNil))) (N:=["place","later"]) (nl:=2) (js:=[]) (osc:=aj gL) ⟨rfl,rfl,by decide +kernel,by decide +kernel,by decide +kernel,rfl,.nil,by decide +kernel⟩ rfl
    (Ak (pv 0) (cy qX (pv 0) (cW ah) cT) (by rfl) m_zip)
    (fun C fp s H=>(cV (X:=d6 _ ["place","later"] _ C fp s H) rfl (aL (aE (X:=d6 _ ["place","later"] _ C fp s H) (i:=0) (by show (["place","later"]:List Str).Nodup; decide +kernel) rfl (Or.inl rfl) (Or.inr rfl)) (aL (aE (X:=d6 _ ["place","later"] _ C fp s H) (i:=1) (by show (["place","later"]:List Str).Nodup; decide +kernel) rfl (Or.inl rfl) (Or.inr rfl)) cw))))
    (fun C fp s H=>cL)
    (fun C fp s H=>(@cX _ _ _ _ _ _ _ _ fM (pv 0) (pv 1) (aG _)))) ad rfl))))),?_⟩
  cases px with
  | @no x T th ne =>
    refine ⟨_,rfl,x,.ty "tuple",_,_,_,rfl,rfl,th.ty,th.isTup,_,rfl,?_⟩
    rw [decide_eq_false ne]
    exact br (br (q _ (au.refl _)))
  | @tup a xs ha hl hth =>
    refine ⟨_,rfl,.ref a,.ty "tuple",_,_,_,rfl,rfl,.of (.tup ha),rfl,_,rfl,bx ?_⟩
    have bnd:∀ n,n≤xs.length->n < sizeLine:=fun n hn=>Nat.lt_of_le_of_lt hn (Nat.lt_trans hl (by decide))
    refine ⟨_,rfl,a,rfl,⟨xs,bc.of ha⟩,?_⟩
    refine ⟨fun i m ys σ' H'=>m=xs.length - i∧i≤xs.length∧ys=((xs.take i).map aS).map V.bl∧H=H'∧∃ o,σ'=[o],⟨xs.length,by simp,Nat.zero_le _,by simp,rfl,none,rfl⟩,?_⟩
    rintro i m ys σ' H' ⟨rfl,hi,rfl,rfl,o,rfl⟩
    refine ⟨bnd _ (by simp; omega),?_⟩
    by_cases hlt:i < xs.length
    ·refine .inr ⟨⟨xs,xs[i],bc.of ha,by simp [hlt]⟩,fun y H2 hy=>?_⟩
     obtain ⟨rfl,hy⟩:=hy
     have ey:=hy xs (bc.of ha)
     obtain ⟨T,th⟩:=hth y (List.mem_of_getElem? ey)
     dsimp only [tYes,bD]
     refine br ⟨_,rfl,y,T,rfl,th,xs.length - (i + 1),by omega,rfl,hlt,?_,rfl,_,rfl⟩
     have e2:xs.take (i + 1)=xs.take i++[y]:=by
      rw [List.take_add_one,ey]; rfl
     rw [e2]
     simp
    ·have ei:i=xs.length:=by omega
     subst ei
     refine .inl ⟨⟨xs,bc.of ha,Nat.le_refl _⟩,fun D hD=>?_⟩
     rw [List.take_length]
     refine ⟨D,_,xs.map aS,rfl,aO.of ac,jH _,_,rfl,?_⟩
     have sD:au H (upd H D (.lst ((xs.map aS).map V.bl))):=ak hD
     cases hp:(xs.map aS).all id with
     | false =>
       have z:jP (some xs)=false:=by
        show (xs.all aS&&iZ xs)=_
        have:xs.all aS=false:=by rw [← hp,List.all_map]; rfl
        rw [this,Bool.false_and]
       rw [z] at q
       exact br (q _ sD)
     | true =>
       refine bx ?_
       have z:jP (some xs)=iZ xs:=by
        show (xs.all aS&&iZ xs)=_
        have:xs.all aS=true:=by rw [← hp,List.all_map]; rfl
        rw [this,Bool.true_and]
       rw [z] at q
       generalize upd H D (.lst ((xs.map aS).map V.bl))=H1 at sD ⊢
       have ha1:=sD _ _ ha
       have hint:∀ y∈xs,∃ n,y=V.int n:=fun y hy=>by
        have:aS y=true:=List.all_eq_true.mp hp _ (List.mem_map_of_mem hy)
        cases y <;> first | exact ⟨_,rfl⟩ | cases this
       have key:∀ (b:Addr)(H2:Hp),au H H2->H2 a=some (.tup xs)->H2 b=some (.tup (xs.drop 1)) →
        ∃ W:Nat->Nat->List V->St->Hp->Prop,(∃ m,W 0 m [] [none,none] H2)∧iY (BE K a b) (lz K 2 (cP (bD 0) (cP (bD 1) gNil))) tYes (pJ (wq fun i j=>V.bl (decide (i < j))) (c7 0) (c7 1)) W
          fun ys H'=>∀ D,H' D=none->∃ l zs bs,[V.ref D]=[V.ref l]∧aO K (upd H' D (.lst ys)) l zs∧Paired AO zs bs∧Q (.bl (bs.all id)) (upd H' D (.lst ys)):=by
        intro b H2 s2 h2a h2b
        refine ⟨fun i m ys σ' H'=>m=(xs.drop 1).length - i∧i≤(xs.drop 1).length∧ys=(((xs.zip (xs.drop 1)).take i).map fun p=>AQ p.1 p.2).map V.bl∧au H2 H'∧∃ o1 o2,σ'=[o1,o2],⟨(xs.drop 1).length,by simp,Nat.zero_le _,by simp,au.refl _,none,none,rfl⟩,?_⟩
        rintro i m ys σ' H' ⟨rfl,hi,rfl,sH,o1,o2,rfl⟩
        have ha':=sH _ _ h2a
        have hb':=sH _ _ h2b
        refine ⟨bnd _ (by simp; omega),?_⟩
        by_cases hlt:i < (xs.drop 1).length
        ·have hlt1:i < xs.length:=by rw [List.length_drop] at hlt; omega
         refine .inr ⟨⟨xs,xs.drop 1,xs[i],(xs.drop 1)[i],bc.of ha',bc.of hb',by simp [hlt1],by rw [List.getElem?_eq_getElem hlt]⟩,fun v H3 hv=>?_⟩
         obtain ⟨T,x,y,hx,hy,hT,rfl,rfl⟩:=hv
         have ex:=hx xs (bc.of ha')
         have ey:=hy (xs.drop 1) (bc.of hb')
         obtain ⟨n,rfl⟩:=hint x (List.mem_of_getElem? ex)
         obtain ⟨k,rfl⟩:=hint y (List.mem_of_mem_drop (List.mem_of_getElem? ey))
         refine ⟨T,_,rfl,bc.of ac,rfl,_,_,rfl,_,_,rfl,rfl,?_⟩
         dsimp only [tYes]
         refine br ⟨_,rfl,_,rfl,n,k,rfl,rfl,(xs.drop 1).length - (i + 1),by omega,rfl,hlt,?_,fun c u e=>?_,_,_,rfl⟩
         ·have ez:(xs.zip (xs.drop 1))[i]?=some (V.int n,V.int k):=by
           rw [List.getElem?_zip_eq_some]
           exact ⟨ex,ey⟩
          have e2:(xs.zip (xs.drop 1)).take (i + 1)=(xs.zip (xs.drop 1)).take i++[(V.int n,V.int k)]:=by
           rw [List.take_add_one,ez]; rfl
          rw [e2]
          simp [AQ]
         ·rw [al (ap (sH _ _ e) hT)]
          exact sH _ _ e
        ·have ei:i=(xs.drop 1).length:=by omega
         subst ei
         refine .inl ⟨⟨xs,xs.drop 1,bc.of ha',bc.of hb',.inr (Nat.le_refl _)⟩,fun D' hD'=>?_⟩
         have et:(xs.zip (xs.drop 1)).take (xs.drop 1).length=xs.zip (xs.drop 1):=by
          apply List.take_of_length_le
          rw [List.length_zip]
          exact Nat.min_le_right _ _
         rw [et]
         refine ⟨D',_,(xs.zip (xs.drop 1)).map fun p=>AQ p.1 p.2,rfl,aO.of ac,jH _,?_⟩
         have er:((xs.zip (xs.drop 1)).map fun p=>AQ p.1 p.2).all id=iZ xs:=by rw [List.all_map]; rfl
         rw [er]
         refine q _ fun c u e=>?_
         have e1:=sH _ _ (s2 _ _ e)
         rw [al (ap e1 hD')]
         exact e1
       refine ⟨_,rfl,_,rfl,1,rfl,a,xs,rfl,bc.of ha1,fun e=>?_,fun p hpn=>?_⟩
       ·rw [Be] at e
        exact ⟨a,a,xs,xs.drop 1,rfl,bc.of ha1,bc.of (by rw [e]; exact ha1),key a H1 sD ha1 (by rw [e]; exact ha1)⟩
       ·rw [Be]
        have np:a≠p:=ap ha1 hpn
        exact ⟨a,p,xs,xs.drop 1,rfl,bc.of (by rw [al np]; exact ha1),bc.of ac,key p _ (fun c u e=>by rw [al (ap (sD _ _ e) hpn)]; exact sD _ _ e) (by rw [al np]; exact ha1) ac⟩
end
noncomputable abbrev y4:Stmt:=aY 25
theorem PX.same {H H':Hp}{x:V}{o:Option (List V)}(h:PX H x o)(s:au H H'):PX H' x o:=by
 cases h with
 | no th n=>exact .no (th.same s) n
 | tup e l h=>exact .tup (s _ _ e) l fun y hy=>let ⟨T,t⟩:=h y hy; ⟨T,t.same s⟩
inductive TmX (p:Int)(H:Hp):V->Bool->Prop where
 | no {x:V}{T:String}:Th H x T->T ≠ "tuple"->TmX p H x false
 | odd {a:Addr}{xs:List V}:H a=some (.tup xs)->xs.length≠2->TmX p H (.ref a) false
 | two {a:Addr}{y z:V}{o:Option (List V)}{o2:Option (V × V)}:H a=some (.tup [y,z])->PX H y o->TX H z o2->TmX p H (.ref a) (jP o&&wf p o2)
theorem TmX.same {p:Int}{H H':Hp}{x:V}{b:Bool}(h:TmX p H x b)(s:au H H'):TmX p H' x b:=by
 cases h with
 | no th n=>exact .no (th.same s) n
 | odd e n=>exact .odd (s _ _ e) n
 | two e h1 h2=>exact .two (s _ _ e) (h1.same s) (h2.same s)
noncomputable def wH (C:Addr):Sp:=fun vs H Q _=>∃ (s dx:Addr)(p:Int)(x:V)(b:Bool),vs=[.ref s,x]∧H s=some (.ins C dx (gu p))∧FP p∧TmX p H x b∧∀ H',au H H'->Q (.bl b) H'
theorem AF:FnScope ["field","thing"] ["field","thing"] (aj y4):=⟨rfl,rfl,rfl,by decide +kernel,rfl,by decide +kernel,by decide +kernel⟩
section
variable {P:Program}{w:World}{K:PySem.W.Frag}{mg:Str->Option Value}{base:Heap}
theorem yP {f fp fi C:Addr}{fd fdp fdi:FuncData}(F:Fun K "is_term" "is_term" y4 f fd)(c:FieldK K mg C)(m_isinstance:mg "isinstance"=none)(m_tuple:mg "tuple"=none)(m_len:mg "len"=none)
 (FP':FnOk P w K mg base (aU P w) 3 fp fdp ["thing"] spProduct)(bP:L2.ax K fdp ["thing"] [])(mP:mg "is_product"=some (.ref fp))(kP:keepIn K (.ref fp)=true)
 (FI:FnOk P w K mg base (aU P w) 2 fi fdi ["self","thing"] (jX C))(bI:L2.ax K fdi ["self","thing"] [])(mI:L2.Meth K C "is_number" fi):FnOk P w K mg base (aU P w) 4 f fd ["field","thing"] (wH C):=by
 refine F.okN AF (fun vs H Q E h=>?_) (fun cdv A outer s H vs Q E hr h=>?_)
 ·obtain ⟨s,dx,p,x,b,rfl,_⟩:=h
  rfl
 ·obtain ⟨s0,dx,p,x,b,rfl,hs,hp,tx,q⟩:=h
  have hr3:Room 3 _:=hr.mono (by decide)
  have hr2:Room 2 _:=hr.mono (by decide)
  refine ⟨_,am (av (dL (ar aN (by rfl) m_isinstance (by rfl) (@ag _ _ _ _ _ (pv 1) (@ag _ _ _ _ _ (ck (by rfl) m_tuple (by rfl) (show aB (.ty "tuple") (.type "tuple") from rfl)) ad rfl) rfl))
   (dL (@cX _ _ _ _ _ _ _ _ cI (ar aQ (by rfl) m_len PySem.boot_len (@ag _ _ _ _ _ (pv 1) ad rfl)) ah (aG _))
   (dL (aq FP' hr3 (by rfl) mP kP bP .nil ae (@ag _ _ _ _ _ (@aW _ _ _ _ _ _ _ cb (pv 1) ah (fun _ _=>rfl)) ad rfl))
   (eO (dk (pv 0) c.cl mI FI hr2 bI .nil ae (@ag _ _ _ _ _ (@aW _ _ _ _ _ _ _ cb (pv 1) ah (fun _ _=>rfl)) ad rfl))))))),?_⟩
  cases tx with
  | @no x T th ne =>
    refine ⟨_,rfl,x,.ty "tuple",_,_,_,rfl,rfl,th.ty,th.isTup,_,rfl,?_⟩
    rw [decide_eq_false ne]
    exact bx (q _ (au.refl _))
  | @odd a xs ha hl =>
    refine ⟨_,rfl,.ref a,.ty "tuple",_,_,_,rfl,rfl,.of (.tup ha),rfl,_,rfl,br ?_⟩
    refine ⟨_,rfl,a,_,rfl,.inr (bc.of ha),rfl,_,rfl,?_⟩
    refine b7 (fun h=>absurd h (by simp; omega)) (fun h=>?_)
    exact q _ (au.refl _)
  | @two a y z o o2 ha hy hz =>
    refine ⟨_,rfl,.ref a,.ty "tuple",_,_,_,rfl,rfl,.of (.tup ha),rfl,_,rfl,br ?_⟩
    refine ⟨_,rfl,a,_,rfl,.inr (bc.of ha),rfl,_,rfl,br ?_⟩
    refine ⟨_,rfl,a,_,0,y,rfl,rfl,bc.of ha,rfl,y,o,rfl,hy,fun H' sH=>⟨_,rfl,?_⟩⟩
    have hs':=sH _ _ hs
    have ha':=sH _ _ ha
    cases e:jP o with
    | false =>
      rw [e,Bool.false_and] at q
      exact bx (q _ sH)
    | true =>
      rw [e,Bool.true_and] at q
      refine br ⟨_,rfl,s0,dx,_,rfl,hs',rfl,_,rfl,a,_,1,z,rfl,rfl,bc.of ha',rfl,s0,dx,p,z,o2,rfl,hs',hp,hz.same sH,q _ sH⟩
end
noncomputable abbrev oK:Stmt:=aY 26
noncomputable abbrev oq:Stmt:=aY 27
noncomputable def lI (C:Addr):Sp:=fun vs H Q _=>∃ (s dx:Addr)(p:Int)(x:V),vs=[.ref s,x]∧H s=some (.ins C dx (gu p))∧FP p ∧
 ((x = .non∧∀ l,H l=none->Q (.ref l) (upd H l (.lst [])))∨∃ l ys,x = .ref l∧H l=some (.lst ys)∧ys.length < 4000∧(∀ y∈ys,TmX p H y true)∧∀ H',au H H'->Q (.ref l) H')
noncomputable def spPlaceOf:Sp:=fun vs H Q _=>∃ (a b:Addr)(z:V)(xs:List V),vs=[.ref a]∧H a=some (.tup [.ref b,z])∧H b=some (.tup xs)∧∀ t,H t=none->Q (.ref t) (upd H t (.tup [.int xs.length,.ref b]))
theorem iS:FnScope ["field","terms","number","thing"] ["field","terms"] (aj oK):=⟨rfl,rfl,rfl,by decide +kernel,rfl,by decide +kernel,by decide +kernel⟩
theorem uy:FnScope ["term"] ["term"] (aj oq):=⟨rfl,rfl,rfl,by decide +kernel,rfl,by decide +kernel,by decide +kernel⟩
section
variable {P:Program}{w:World}{K:PySem.W.Frag}{mg:Str->Option Value}{base:Heap}
theorem pM {f:Addr}{fd:FuncData}(F:Fun K "place_of_term" "place_of_term" oq f fd)(m_len:mg "len"=none):FnOk P w K mg base (aU P w) 1 f fd ["term"] spPlaceOf:=by
 refine F.okN uy (fun vs H Q E h=>?_) (fun cdv A outer s H vs Q E hr h=>?_)
 ·obtain ⟨a,b,z,xs,rfl,_⟩:=h
  rfl
 ·obtain ⟨a,b,z,xs,rfl,ha,hb,q⟩:=h
  refine ⟨_,(am (av (@bH _ _ _ _ _ (@ag _ _ _ _ _ (ar aQ (by rfl) m_len PySem.boot_len (@ag _ _ _ _ _ (@aW _ _ _ _ _ _ _ cb (pv 0) ah (fun _ _=>rfl)) ad rfl)) (@ag _ _ _ _ _ (@aW _ _ _ _ _ _ _ cb (pv 0) ah (fun _ _=>rfl)) ad rfl) rfl)))),?_⟩
  refine ⟨_,rfl,a,_,0,_,rfl,rfl,bc.of ha,rfl,b,xs,rfl,.inr (bc.of hb),_,rfl,a,_,0,_,rfl,rfl,bc.of ha,rfl,(by show 2≤sizeLine; decide),fun t ht=>q t ht⟩
theorem pS {f ft C:Addr}{fd fdt:FuncData}(F:Fun K "checked_terms" "checked_terms" oK f fd)(m_isinstance:mg "isinstance"=none)(m_list:mg "list"=none)(m_enumerate:mg "enumerate"=none)
 (FT:FnOk P w K mg base (aU P w) 4 ft fdt ["field","thing"] (wH C))(bT:L2.ax K fdt ["field","thing"] [])(mT:mg "is_term"=some (.ref ft))(kT:keepIn K (.ref ft)=true):FnOk P w K mg base (aU P w) 5 f fd ["field","terms"] (lI C):=by
 refine F.okN iS (fun vs H Q E h=>?_) (fun cdv A outer s H vs Q E hr h=>?_)
 ·obtain ⟨s,dx,p,x,rfl,_⟩:=h
  rfl
 ·obtain ⟨s0,dx,p,x,rfl,hs,hp,h⟩:=h
  have hr4:Room 4 _:=hr.mono (by decide)
  refine ⟨_,(ai (a7 (@aF _ _ _ _ _ _ _ _ zG (pv 1) iz (aG _)) (am (av (@bq _ _ _ _ ad))) aC)
   (ai (a7 (bY (bw (ar aN (by rfl) m_isinstance (by rfl) (@ag _ _ _ _ _ (pv 1) (@ag _ _ _ _ _ (ck (by rfl) m_list (by rfl) (show aB (.ty "list") (.type "list") from rfl)) ad rfl) rfl)))) (am (pk)) aC)
   (ai (fV PassesOwn.never rfl (xG (pv 1) (by rfl) m_enumerate) (cV rfl (aL (aE (i:=2) iS.nd rfl (Or.inl rfl)) (aL (aE (i:=3) iS.nd rfl (Or.inl rfl)) cw)))
   (am (a7 (bY (bw (aq FT hr4 (by rfl) mT kT bT .nil ae (@ag _ _ _ _ _ (pv 0) (@ag _ _ _ _ _ (pv 3) ad rfl) rfl)))) (am (pk)) aC)))
   (am (av (pv 1)))))),?_⟩
  rcases h with ⟨rfl,q⟩ | ⟨l,ys,rfl,hl,hlen,hys,q⟩
  ·refine ⟨_,rfl,rfl,_,rfl,?_⟩
   exact br ⟨Nat.zero_le _,fun l hl=>q l hl⟩
  ·refine ⟨_,rfl,rfl,_,rfl,bx ?_⟩
   refine ⟨_,rfl,.ref l,.ty "list",_,_,_,rfl,rfl,.of (.lst hl),rfl,_,rfl,bx ?_⟩
   refine ⟨_,rfl,l,ys,rfl,aO.of hl,?_⟩
   refine ⟨fun i m σ' H'=>m=ys.length - i∧i≤ys.length∧au H H'∧∃ o1 o2,σ'=[some (.ref s0),some (.ref l),o1,o2],⟨ys.length,by simp,Nat.zero_le _,au.refl _,none,none,rfl⟩,?_⟩
   rintro i m σ' H' ⟨rfl,hi,sH,o1,o2,rfl⟩
   have hl':=sH _ _ hl
   by_cases hlt:i < ys.length
   ·refine .inr ⟨⟨ys,ys[i],aO.of hl',by simp [hlt]⟩,fun σ' H'=>i + 1≤ys.length∧au H H'∧∃ o1 o2,σ'=[some (.ref s0),some (.ref l),o1,o2],?_,fun v H2 hv=>?_⟩
    ·rintro σ' H' ⟨h1,h2,h3⟩
     exact ⟨ys.length - (i + 1),by omega,rfl,h1,h2,h3⟩
    ·obtain ⟨T,y,hy,hT,rfl,rfl⟩:=hv
     have ey:=hy ys (aO.of hl')
     have s2:au H (upd H' T (.tup [.int i,y])):=fun c u e=>by
      rw [al (ap (sH _ _ e) hT)]
      exact sH _ _ e
     have ty:=(hys y (List.mem_of_getElem? ey)).same s2
     refine ⟨T,_,rfl,bc.of ac,rfl,_,_,rfl,_,_,rfl,rfl,?_⟩
     refine ⟨_,rfl,_,rfl,s0,dx,p,y,true,rfl,s2 _ _ hs,hp,ty,fun H3 s3=>⟨_,rfl,bx ?_⟩⟩
     exact ⟨hlt,fun c u e=>s3 _ _ (s2 _ _ e),_,_,rfl⟩
   ·refine .inl ⟨⟨ys,aO.of hl',by omega⟩,?_⟩
    exact ⟨_,rfl,q _ sH⟩
end
end K07
namespace Srt
open PySem PySem.W PyProof.Rows
structure Pm (n:Nat)(r:Nat->Nat)(p:Array Nat):Prop where
 size:p.size=n
 lt:∀ k,k < n->p.getD k 0 < n
 ne:∀ k l,k < n->l < n->k≠l->r (p.getD k 0)≠r (p.getD l 0)
 perm:p.Perm (List.range n).toArray
section
variable {n:Nat}{r:Nat->Nat}
theorem Pm.nq {n:Nat}{r:Nat->Nat}{p:Array Nat}(P:Pm n r p)(k l:Nat)(hk:k < n)(hl:l < n)(h:k≠l):p.getD k 0≠p.getD l 0:=fun z=>P.ne k l hk hl h (by rw [z])
theorem getD_some {p:Array Nat}{k:Nat}(h:k < p.size):p[k]?=some (p.getD k 0):=by simp [Array.getD,h]
theorem oP (inj:∀ i j,i < n->j < n->i≠j->r i≠r j){p:Array Nat}(hp:p.Perm (List.range n).toArray):Pm n r p:=by
 have hl:p.toList.Perm (List.range n):=by simpa using hp.toList
 have hs:p.size=n:=by rw [← Array.length_toList,hl.length_eq,List.length_range]
 have hlt:∀ k,k < n->p.getD k 0 < n:=fun k hk=>by
  have hm:p.getD k 0∈p.toList:=by
   rw [show p.getD k 0=p[k]'(by omega) by simp [Array.getD,hs,hk]]
   exact Array.mem_toList_iff.mpr (Array.getElem_mem _)
  exact List.mem_range.mp (hl.mem_iff.mp hm)
 refine ⟨hs,hlt,fun k l hk hl' hne=>inj _ _ (hlt k hk) (hlt l hl') fun e=>hne ?_,hp⟩
 have nd:p.toList.Nodup:=hl.nodup_iff.mpr List.nodup_range
 have e1:p.toList[k]'(by simp; omega)=p.toList[l]'(by simp; omega):=by
  rw [show p.getD k 0=p[k]'(by omega) by simp [Array.getD,hs,hk],show p.getD l 0=p[l]'(by omega) by simp [Array.getD,hs,hl']] at e
  simpa using e
 have pw:=List.pairwise_iff_getElem.mp (show p.toList.Pairwise (· ≠ ·) from nd)
 rcases Nat.lt_trichotomy k l with z | z | z
 ·exact absurd e1 (pw k l _ _ z)
 ·exact z
 ·exact absurd e1.symm (pw l k _ _ z)
noncomputable def Up (r:Nat->Nat)(p:Array Nat)(m:Nat):Prop:=∀ i j,i < j->j < m->r (p.getD i 0) < r (p.getD j 0)
noncomputable def Dn (r:Nat->Nat)(p:Array Nat)(m:Nat):Prop:=∀ i j,i < j->j < m->r (p.getD j 0) < r (p.getD i 0)
theorem Up.succ {p:Array Nat}{m:Nat}(h:Up r p m)(h1:1≤m)(e:r (p.getD (m - 1) 0) < r (p.getD m 0)):Up r p (m + 1):=fun i j hij hj=>by
 by_cases z:j=m
 ·subst z
  by_cases z2:i=j - 1
  ·subst z2; exact e
  ·exact Nat.lt_trans (h i (j - 1) (by omega) (by omega)) e
 ·exact h i j hij (by omega)
theorem Dn.succ {p:Array Nat}{m:Nat}(h:Dn r p m)(h1:1≤m)(e:r (p.getD m 0) < r (p.getD (m - 1) 0)):Dn r p (m + 1):=fun i j hij hj=>by
 by_cases z:j=m
 ·subst z
  by_cases z2:i=j - 1
  ·subst z2; exact e
  ·exact Nat.lt_trans e (h i (j - 1) (by omega) (by omega))
 ·exact h i j hij (by omega)
theorem rc {p:Array Nat}{m k:Nat}(hm:m≤p.size)(hk:k < p.size):(kas_rev p 0 m).getD k 0=if k < m then p.getD (m - 1 - k) 0 else p.getD k 0:=by
 have e:=getElem?_mirror_all (xs:=p) (i:=0) hm k
 have hs:(kas_rev p 0 m).size=p.size:=mirror_size _ _ _ _
 have e2:(kas_rev p 0 m)[k]?=some ((kas_rev p 0 m).getD k 0):=getD_some (by rw [hs]; exact hk)
 have e3:(kas_rev p 0 m)[k]?=if 0≤k∧k < m then p[0 + m - 1 - k]? else p[k]?:=e
 rw [e2] at e3
 by_cases h:k < m
 ·rw [if_pos ⟨Nat.zero_le _,h⟩,show 0 + m - 1 - k=m - 1 - k by omega,getD_some (by omega)] at e3
  rw [if_pos h]
  exact Option.some.inj e3
 ·rw [if_neg (fun z=>h z.2),getD_some hk] at e3
  rw [if_neg h]
  exact Option.some.inj e3
theorem Dn.rev {p:Array Nat}{m:Nat}(h:Dn r p m)(hm:m≤p.size):Up r (kas_rev p 0 m) m:=fun i j hij hj=>by
 rw [rc hm (by omega),rc hm (by omega),if_pos (by omega),if_pos hj]
 exact h _ _ (by omega) (by omega)
variable {cmp:Nat->Nat->(Bool->Shared->Prop)->Shared->Prop}{s:Shared}
theorem qb (hc:∀ i j C,i < n->j < n->i≠j->C (decide (r i < r j)) s->cmp i j C s){p:Array Nat}(P:Pm n r p){Q:Nat->Shared->Prop}:∀ (f m:Nat),1≤m->m + f=n->Up r p m →
 (∀ m',m≤m'->m'≤n->Up r p m'->(m' < n->r (p.getD m' 0) < r (p.getD (m' - 1) 0))->Q m' s)->(kas_asc p f m).kasWp cmp Q s
 | 0,m,h1,hm,hu,hQ=>hQ m (Nat.le_refl _) (by omega) hu fun h=>by omega
 | f + 1,m,h1,hm,hu,hQ=>by
   refine hc _ _ _ (P.lt m (by omega)) (P.lt (m - 1) (by omega)) (P.nq m (m - 1) (by omega) (by omega) (by omega)) ?_
   show ((if decide (r (p.getD m 0) < r (p.getD (m - 1) 0))=true then KasT.ret m else kas_asc p f (m + 1)).kasWp cmp Q s)
   by_cases h:r (p.getD m 0) < r (p.getD (m - 1) 0)
   ·rw [if_pos (decide_eq_true h)]
    exact hQ m (Nat.le_refl _) (by omega) hu fun _=>h
   ·rw [if_neg (by simpa using h)]
    have ne:=P.ne m (m - 1) (by omega) (by omega) (by omega)
    exact qb hc P f (m + 1) (by omega) (by omega) (hu.succ h1 (by omega)) fun m' h2=>hQ m' (by omega)
theorem ss (hc:∀ i j C,i < n->j < n->i≠j->C (decide (r i < r j)) s->cmp i j C s){p:Array Nat}(P:Pm n r p){Q:Array Nat × Nat × Nat->Shared->Prop}:∀ (f m:Nat),1≤m->m + f=n->Dn r p m →
 (∀ m',m≤m'->m'≤n->Dn r p m'->Q (p,m',0) s)->(kas_desc f p m 0).kasWp cmp Q s
 | 0,m,h1,hm,hu,hQ=>hQ m (Nat.le_refl _) (by omega) hu
 | f + 1,m,h1,hm,hu,hQ=>by
   refine hc _ _ _ (P.lt m (by omega)) (P.lt (m - 1) (by omega)) (P.nq m (m - 1) (by omega) (by omega) (by omega)) ?_
   by_cases h:r (p.getD m 0) < r (p.getD (m - 1) 0)
   ·rw [decide_eq_true h]
    exact ss hc P f (m + 1) (by omega) (by omega) (hu.succ h1 h) fun m' h2=>hQ m' (by omega)
   ·rw [decide_eq_false h]
    refine hc _ _ _ (P.lt (m - 1) (by omega)) (P.lt m (by omega)) (P.nq (m - 1) m (by omega) (by omega) (by omega)) ?_
    have ne:=P.ne m (m - 1) (by omega) (by omega) (by omega)
    rw [decide_eq_true (show r (p.getD (m - 1) 0) < r (p.getD m 0) by omega)]
    exact hQ m (Nat.le_refl _) (by omega) hu
theorem wR (inj:∀ i j,i < n->j < n->i≠j->r i≠r j)(hc:∀ i j C,i < n->j < n->i≠j->C (decide (r i < r j)) s->cmp i j C s){p:Array Nat}(P:Pm n r p){Q:Nat × Array Nat->Shared->Prop}{m:Nat}(h1:1≤m)(hm:m≤n)(hd:Dn r p m)
 (hQ:∀ m' p',m'≤n->1≤m'->Pm n r p'->Up r p' m'->Q (m',p') s):(kas_tail3 m n p).kasWp cmp Q s:=by
 unfold kas_tail3
 rw [KasT.kasWp_bind]
 have P':Pm n r (kas_rev p 0 m):=oP inj ((mirror_perm _ _ _ _).trans P.perm)
 exact qb hc P' (n - m) m h1 (by omega) (hd.rev (by rw [P.size]; exact hm)) fun m' h2 h3 h4 _=>hQ m' _ h3 (by omega) P' h4
theorem xi (inj:∀ i j,i < n->j < n->i≠j->r i≠r j)(hc:∀ i j C,i < n->j < n->i≠j->C (decide (r i < r j)) s->cmp i j C s)(h0:1≤n){p:Array Nat}(P:Pm n r p){Q:Nat × Array Nat->Shared->Prop}
 (hQ:∀ m' p',m'≤n->1≤m'->Pm n r p'->Up r p' m'->Q (m',p') s):(kas_count n p).kasWp cmp Q s:=by
 unfold kas_count
 rw [KasT.kasWp_bind]
 refine qb hc P (n - 1) 1 (Nat.le_refl _) (by omega) (fun i j hij hj=>by omega) fun m h1 h2 h3 h4=>?_
 by_cases e:m=n
 ·subst e
  rw [if_pos (by simp)]
  exact hQ _ _ (Nat.le_refl _) h1 P h3
 ·rw [if_neg (by simpa using e)]
  by_cases h5:m > 1
  ·rw [if_pos h5]
   refine hc _ _ _ (P.lt 0 (by omega)) (P.lt (m - 1) (by omega)) (P.nq 0 (m - 1) (by omega) (by omega) (by omega)) ?_
   rw [decide_eq_true (h3 0 (m - 1) (by omega) (by omega))]
   exact hQ _ _ h2 h1 P h3
  ·rw [if_neg h5]
   have e1:m=1:=by omega
   subst e1
   unfold kas_descPart
   rw [KasT.kasWp_bind]
   have d2:Dn r p (1 + 1):=Dn.succ (fun i j hij hj=>by omega) (Nat.le_refl _) (h4 (by omega))
   refine ss hc P (n - (1 + 1)) (1 + 1) (by omega) (by omega) d2 fun m' h6 h7 h8=>?_
   show ((if 0 > 0 then _ else kas_tail3 m' n p).kasWp cmp Q s)
   rw [if_neg (by omega)]
   exact wR inj hc P (by omega) h7 h8 hQ
theorem k8 (hc:∀ i j C,i < n->j < n->i≠j->C (decide (r i < r j)) s->cmp i j C s){p:Array Nat}(P:Pm n r p){Q:Nat->Shared->Prop}{k:Nat}(hk:k < n)(hu:Up r p k):∀ (f l q:Nat),l≤q->q≤k->q - l≤f->(∀ j,j < l->r (p.getD j 0) < r (p.getD k 0))->(∀ j,q≤j->j < k->r (p.getD k 0) < r (p.getD j 0)) →
 (∀ l',l'≤k->(∀ j,j < l'->r (p.getD j 0) < r (p.getD k 0))->(∀ j,l'≤j->j < k->r (p.getD k 0) < r (p.getD j 0))->Q l' s)->(kas_place p k f l q).kasWp cmp Q s
 | 0,l,q,h1,h2,h3,h4,h5,hQ=>hQ l (by omega) h4 fun j h6 h7=>h5 j (by omega) h7
 | f + 1,l,q,h1,h2,h3,h4,h5,hQ=>by
   unfold kas_place
   by_cases h:l ≥ q
   ·rw [if_pos h]
    exact hQ l (by omega) h4 fun j h6 h7=>h5 j (by omega) h7
   ·rw [if_neg h]
    refine hc _ _ _ (P.lt k hk) (P.lt ((l + q) / 2) (by omega)) (P.nq k ((l + q) / 2) hk (by omega) (by omega)) ?_
    have ne:=P.ne k ((l + q) / 2) hk (by omega) (by omega)
    by_cases z:r (p.getD k 0) < r (p.getD ((l + q) / 2) 0)
    ·rw [decide_eq_true z]
     refine k8 hc P hk hu f l ((l + q) / 2) (by omega) (by omega) (by omega) h4 (fun j h6 h7=>?_) hQ
     by_cases e:j=(l + q) / 2
     ·subst e; exact z
     ·exact Nat.lt_trans z (hu _ _ (by omega) h7)
    ·rw [decide_eq_false z]
     refine k8 hc P hk hu f ((l + q) / 2 + 1) q (by omega) h2 (by omega) (fun j h6=>?_) h5 hQ
     by_cases e:j=(l + q) / 2
     ·subst e; omega
     ·have:=hu j ((l + q) / 2) (by omega) (by omega)
      omega
theorem sR {p:Array Nat}{k l j:Nat}(hk:k < p.size)(hl:l≤k)(hj:j < p.size):(bubble p k (k - l)).getD j 0=if j=l then p.getD k 0 else if l < j∧j≤k then p.getD (j - 1) 0 else p.getD j 0:=by
 have e:=getElem?_bubble hk (k - l) (by omega) j
 rw [show k - (k - l)=l by omega,getD_some (by rw [bubble_size]; exact hj)] at e
 by_cases h1:j=l
 ·rw [if_pos h1,getD_some hk] at e
  rw [if_pos h1]
  exact Option.some.inj e
 ·rw [if_neg h1] at e ⊢
  by_cases h2:l < j∧j≤k
  ·rw [if_pos h2,getD_some (by omega)] at e
   rw [if_pos h2]
   exact Option.some.inj e
  ·rw [if_neg h2,getD_some hj] at e
   rw [if_neg h2]
   exact Option.some.inj e
theorem wC (inj:∀ i j,i < n->j < n->i≠j->r i≠r j)(hc:∀ i j C,i < n->j < n->i≠j->C (decide (r i < r j)) s->cmp i j C s){Q:Array Nat->Shared->Prop}(hQ:∀ p',Pm n r p'->Up r p' n->Q p' s):∀ (f:Nat)(p:Array Nat)(k:Nat),Pm n r p->k + f=n->Up r p k->(kas_bin f p k).kasWp cmp Q s
 | 0,p,k,P,hk,hu=>hQ p P (by rw [← hk]; exact hu)
 | f + 1,p,k,P,hk,hu=>by
   unfold kas_bin
   rw [KasT.kasWp_bind]
   refine k8 hc P (by omega) hu k 0 k (Nat.zero_le _) (Nat.le_refl _) (by omega) (fun j h=>by omega) (fun j h1 h2=>by omega) fun l h1 h2 h3=>?_
   have P':Pm n r (bubble p k (k - l)):=oP inj ((bubble_perm _ _ _).trans P.perm)
   refine wC inj hc hQ f _ (k + 1) P' (by omega) fun i j hij hj=>?_
   have sz:=P.size
   rw [sR (by omega) h1 (by omega),sR (by omega) h1 (by omega)]
   by_cases e1:i=l
   ·rw [if_pos e1,if_neg (by omega),if_pos ⟨by omega,by omega⟩]
    exact h3 _ (by omega) (by omega)
   ·rw [if_neg e1]
    by_cases e2:j=l
    ·rw [if_pos e2,if_neg (by omega)]
     exact h2 _ (by omega)
    ·rw [if_neg e2]
     by_cases e3:l < j
     ·rw [if_pos (show l < j∧j≤k from ⟨e3,by omega⟩)]
      by_cases e4:l < i
      ·rw [if_pos ⟨e4,by omega⟩]
       exact hu _ _ (by omega) (by omega)
      ·rw [if_neg (by omega)]
       exact hu _ _ (by omega) (by omega)
     ·rw [if_neg (by omega),if_neg (by omega)]
      exact hu _ _ hij (by omega)
theorem sC (inj:∀ i j,i < n->j < n->i≠j->r i≠r j)(hc:∀ i j C,i < n->j < n->i≠j->C (decide (r i < r j)) s->cmp i j C s)(h0:1≤n){Q:Array Nat->Shared->Prop}(hQ:∀ p',Pm n r p'->Up r p' n->Q p' s):(kas_sort n).kasWp cmp Q s:=by
 unfold kas_sort
 rw [KasT.kasWp_bind]
 refine xi inj hc h0 (oP inj (Array.Perm.refl _)) fun m p h1 h2 P hu=>?_
 show ((if m < n then kas_bin (n - max m 1) p (max m 1) else KasT.ret p).kasWp cmp Q s)
 by_cases h:m < n
 ·rw [if_pos h,show max m 1=m by omega]
  exact wC inj hc hQ _ _ _ P (by omega) hu
 ·rw [if_neg h]
  have e:m=n:=by omega
  subst e
  exact hQ p P hu
end
section
variable {prog:Program}{w:World}{A:Around}{E:Value->Shared->Prop}{s:Shared}
noncomputable def mY (prog:Program)(w:World)(A:Around)(ks:List Value)(r:Nat->Nat)(s:Shared):Prop :=
 ∃ κ,(∀ Q:SortKind->Shared->Prop,Q κ s->wpAny (model prog w) A (keyKind' ks.toArray) Q (fun _ _=>False) s)∧∀ i j C,i < ks.length->j < ks.length->i≠j->C (decide (r i < r j)) s->kas_ask prog w A κ ks i j C s
noncomputable def cO (vs:List Value)(p:Array Nat):List Value:=p.toList.map fun i=>vs.getD i Value.none
theorem pc (vs:List Value):cO vs (List.range vs.length).toArray=vs:=by
 unfold cO
 apply List.ext_getElem
 ·simp
 ·intro i h1 h2
  simp [h2]
theorem ui {vs:List Value}{r:Nat->Nat}{p:Array Nat}(P:Pm vs.length r p):(cO vs p).length=vs.length:=by
 unfold cO
 rw [List.length_map,Array.length_toList,P.size]
theorem cU {n:Nat}(h:n < 64):n≤sizeLine:=by rw [sizeLine_eq]; omega
noncomputable def uX (a:Addr)(h h':Heap):Prop:=∀ b o,b≠a->h.get? b=some o->h'.get? b=some o
theorem yq {h:Heap}{a:Addr}{o1 o2:Obj}{g:Obj->Obj}:uX a h (((h.update a g).push o1).push o2):=fun b o hb e=>by
 refine Heap.get?_push_of_some _ (Heap.get?_push_of_some _ ?_)
 rw [Heap.get?_update_ne _ _ _ _ hb]; exact e
theorem ni {a:Addr}{vs:List Value}{n:Nat}{r:Nat->Nat}{P:PySem.Fin->Shared->Prop}(ho:s.heap.get? a=some (seqObj "list" vs.toArray n))(h64:vs.length < 64)
 (inj:∀ i j,i < vs.length->j < vs.length->i≠j->r i≠r j)
 (hk:2≤vs.length->∀ h',uX a s.heap h'->mY prog w A vs r { s with heap:=h' })
 (hP:∀ h' p c,uX a s.heap h'->h'.get? a=some (seqObj "list" (cO vs p).toArray c)->Pm vs.length r p->Up r p vs.length->P (.done (.ret .none)) { s with heap:=h' }):
 wpAny (model prog w) A (Builtin.«list.sort» ⟨[.ref a],[]⟩) P E s:=by
 have ha:a < s.heap.objs.size:=Heap.lt_size ho
 obtain ⟨e1,ho1⟩:∃ e1,(s.heap.update a (Obj.mapSeq fun _=>(#[]:Array Value))).get? a=some (seqObj "list" #[] e1):=⟨_,get?_update_seq ho fun _=>#[]⟩
 rw [list_sort_plain]
 refine wpAny_bind (listItems_at ho rfl (wpAny_bind (listUpdate_at ho rfl (wpAny_bind (seqEpoch_at ho1 rfl (wpAny_bind (wpAny_newTuple (wpAny_bind (wpAny_newList ?_ (Nat.zero_le _))) (cU h64))))) (by rw [List.size_toArray]; exact cU h64) (Nat.zero_le _))))
 refine wpAny_holding (?_:wpAny (model prog w) A _ P E { s with heap:=((s.heap.update a (Obj.mapSeq fun _=>(#[]:Array Value))).push (seqObj "tuple" vs.toArray 0)).push (seqObj "list" #[] 0) })
 have kp:uX a s.heap (((s.heap.update a (Obj.mapSeq fun _=>(#[]:Array Value))).push (seqObj "tuple" vs.toArray 0)).push (seqObj "list" #[] 0)):=yq
 have ho6:(((s.heap.update a (Obj.mapSeq fun _=>(#[]:Array Value))).push (seqObj "tuple" vs.toArray 0)).push (seqObj "list" #[] 0)).get? a=some (seqObj "list" #[] e1):=Heap.get?_push_of_some _ (Heap.get?_push_of_some _ ho1)
 generalize ((s.heap.update a (Obj.mapSeq fun _=>(#[]:Array Value))).push (seqObj "tuple" vs.toArray 0)).push (seqObj "list" #[] 0)=h6 at kp ho6 ⊢
 have fin:∀ p,Pm vs.length r p->Up r p vs.length->P (.done (.ret .none)) { s with heap:=h6.update a (Obj.mapSeq fun _=>(cO vs p).toArray) }:=fun p pm up=>by
  obtain ⟨c2,hc2⟩:∃ c2,(h6.update a (Obj.mapSeq fun _=>(cO vs p).toArray)).get? a=some (seqObj "list" (cO vs p).toArray c2):=⟨_,get?_update_seq ho6 fun _=>(cO vs p).toArray⟩
  exact hP _ p c2 (fun b o hb e=>by rw [Heap.get?_update_ne _ _ _ _ hb]; exact kp b o hb e) hc2 pm up
 have last:∀ p,Pm vs.length r p->(List.toArray (cO vs p)).size≤sizeLine:=fun p pm=>by rw [List.size_toArray,ui pm]; exact cU h64
 dsimp only
 by_cases h2:vs.toArray.size < 2
 ·have small:vs.length < 2:=by simpa using h2
  rw [if_pos h2,if_pos h2]
  refine wpAny_bind (wpAny_pure ?_)
  rw [StateT.run_pure]
  refine wpAny_bind (wpAny_pure ?_)
  have hm:(arrOf (SortSt.mk' general' (vs.toArray.zip vs.toArray) #[] 7 none)).map (·.2)=(cO vs (List.range vs.length).toArray).toArray:=by
   rw [pc]
   show (vs.toArray.zip vs.toArray).map (·.2)=vs.toArray
   apply Array.toList_inj.mp
   simp [List.map_snd_zip]
  have P0:Pm vs.length r (List.range vs.length).toArray:=oP inj (Array.Perm.refl _)
  have U0:Up r (List.range vs.length).toArray vs.length:=fun i j hij hj=>by omega
  dsimp only
  rw [hm]
  refine wpAny_bind (seqEpoch_at ho6 rfl (wpAny_bind (listUpdate_at ho6 rfl ?_ (Nat.zero_le _) (Nat.le_succ_of_le (last _ P0)))))
  simp only [bne_self_eq_false,Bool.false_eq_true,if_false]
  exact wpAny_pure (fin _ P0 U0)
 ·have big:2≤vs.length:=by simpa using h2
  rw [if_neg h2,if_neg h2]
  obtain ⟨κ,hkind,hask⟩:=hk big h6 kp
  refine wpAny_bind (wpAny_mono (hkind (fun κ' s0=>(kas_sort vs.length).kasWp (kas_ask prog w A κ' vs) (fun p s'=>s'={ s with heap:=h6 }∧Pm vs.length r p∧Up r p vs.length) s0) (sC (n:=vs.length) (r:=r) inj hask (by omega) (Q:=fun p s'=>s'={ s with heap:=h6 }∧Pm vs.length r p∧Up r p vs.length) fun p pm up=>⟨rfl,pm,up⟩)) (fun κ' s0 hw=>?_) fun _ _ x=>x.elim)
  refine wpAny_bind (wpAny_mono (kat_run (κ:=κ') (Q:=fun st' s'=>∃ p:Array Nat,arrOf st'=p.map (kas_item (vs.toArray.zip vs.toArray))∧failedOf st'=none∧s'={ s with heap:=h6 }∧Pm vs.length r p∧Up r p vs.length) rfl big h64 (fun p' st' s' _ a2 a3 a4=>⟨p',a2,a3,a4⟩) hw) ?_ fun _ _ e=>e)
  rintro ⟨⟨⟩,st'⟩ s' ⟨p,har,hf,rfl,pm,up⟩
  dsimp only
  rw [kat_snds rfl har]
  refine wpAny_bind (seqEpoch_at ho6 rfl (wpAny_bind (listUpdate_at ho6 rfl ?_ (Nat.zero_le _) (Nat.le_succ_of_le (last _ pm)))))
  rw [hf]
  simp only [bne_self_eq_false,Bool.false_eq_true,if_false]
  exact wpAny_pure (fin p pm up)
theorem uI {l:Addr}{vs:List Value}{r:Nat->Nat}{Q:Value->Shared->Prop}(hl:s.heap.IsList l vs.toArray)(h64:vs.length < 64)
 (inj:∀ i j,i < vs.length->j < vs.length->i≠j->r i≠r j)
 (hk:2≤vs.length->∀ h',(∀ b o,s.heap.get? b=some o->h'.get? b=some o)->mY prog w A.in1.in1 vs r { s with heap:=h' })
 (hQ:∀ h' D p c,(∀ b o,s.heap.get? b=some o->h'.get? b=some o)->s.heap.get? D=none->h'.get? D=some (seqObj "list" (cO vs p).toArray c)->Pm vs.length r p->Up r p vs.length->Q (.ref D) { s with heap:=h' }):
 wpAny (model prog w) A (call (.builtin "sorted") [.ref l]) Q E s:=by
 refine Calls.call_function_entry kind_sorted plain_sorted entry_sorted (args_sorted1 _) ?_
 unfold Builtin.«sorted»
 refine wpAny_bind (m:=checkCount "sorted" 1 1 _) (wpAny_pure (wpAny_bind (collect_list hl (wpAny_bind (wpAny_newList ?_ (cU h64))) (cU h64))))
 have sz:((s.heap.push (seqObj "list" #[] 0)).update s.heap.objs.size (Obj.mapSeq (·++vs.toArray))).objs.size=s.heap.objs.size + 1:=by rw [Heap.size_update]; exact size_push' _ _
 have at1:(((s.heap.push (seqObj "list" #[] 0)).update s.heap.objs.size (Obj.mapSeq (·++vs.toArray))).push (seqObj "list" vs.toArray 0)).get? (s.heap.objs.size + 1)=some (seqObj "list" vs.toArray 0):=by
  rw [← sz]; exact Heap.get?_push_size _ rfl
 have old:∀ b o,s.heap.get? b=some o->(((s.heap.push (seqObj "list" #[] 0)).update s.heap.objs.size (Obj.mapSeq (·++vs.toArray))).push (seqObj "list" vs.toArray 0)).get? b=some o:=fun b o q=>by
  have lt:b < s.heap.objs.size:=Heap.lt_size q
  refine Heap.get?_push_of_some _ ?_
  rw [Heap.get?_update_ne _ _ _ _ (Nat.ne_of_lt lt)]; exact Heap.get?_push_of_some _ q
 have new:s.heap.get? (s.heap.objs.size + 1)=none:=Heap.get?_none_of_le (Nat.le_succ _)
 show wpAny _ _ _ _ _ { s with heap:=((s.heap.push (seqObj "list" #[] 0)).update s.heap.objs.size (Obj.mapSeq (·++vs.toArray))).push (seqObj "list" vs.toArray 0) }
 rw [sz]
 generalize ((s.heap.push (seqObj "list" #[] 0)).update s.heap.objs.size (Obj.mapSeq (·++vs.toArray))).push (seqObj "list" vs.toArray 0)=h5 at at1 old ⊢
 have kp:∀ h',uX (s.heap.objs.size + 1) h5 h'->∀ b o,s.heap.get? b=some o->h'.get? b=some o:=fun h' k b o q=>k b o (fun z=>by rw [z,new] at q; cases q) (old b o q)
 refine wpAny_bind (wpAny_holding (wpAny_call_entry slot_list_sort ⟨_,at1,rfl⟩ entry_list_sort (ni (s:={ s with heap:=h5 }) (r:=r) at1 h64 inj (fun b h' k=>hk b h' (kp h' k)) fun h' p c k e pm up=>⟨_,rfl,?_⟩) (args_list_sort _)))
 exact wpAny_pure ⟨_,rfl,hQ h' _ p c (kp h' k) new e pm up⟩
end
open L2
noncomputable abbrev Ky:=Int × List Int
noncomputable def lj (a b:Ky):Bool:=if a.1=b.1 then HT.cQ a.2 b.2 else decide (a.1 < b.1)
theorem kY:∀ xs:List Int,HT.cQ xs xs=false
 | []=>rfl
 | x :: xs=>by rw [HT.dJ,if_pos rfl]; exact kY xs
theorem lE:∀ {xs ys zs:List Int},HT.cQ xs ys=true->HT.cQ ys zs=true->HT.cQ xs zs=true
 | [],[],_,h,_=>by cases h
 | [],y :: ys,[],_,h=>by cases h
 | [],y :: ys,z :: zs,_,_=>rfl
 | x :: xs,[],_,h,_=>by cases h
 | x :: xs,y :: ys,[],_,h=>by cases h
 | x :: xs,y :: ys,z :: zs,h1,h2=>by
   rw [HT.dJ] at h1 h2 ⊢
   by_cases e1:x=y
   ·rw [if_pos e1] at h1
    by_cases e2:y=z
    ·rw [if_pos e2] at h2
     rw [if_pos (e1.trans e2)]
     exact lE h1 h2
    ·rw [if_neg e2] at h2
     rw [e1,if_neg e2]
     exact h2
   ·rw [if_neg e1] at h1
    have l1:=of_decide_eq_true h1
    by_cases e2:y=z
    ·rw [← e2,if_neg e1]
     exact h1
    ·rw [if_neg e2] at h2
     have l2:=of_decide_eq_true h2
     rw [if_neg (by omega)]
     exact decide_eq_true (by omega)
theorem lG:∀ {xs ys:List Int},xs≠ys->HT.cQ xs ys=true∨HT.cQ ys xs=true
 | [],[],h=>absurd rfl h
 | [],y :: ys,_=>.inl rfl
 | x :: xs,[],_=>.inr rfl
 | x :: xs,y :: ys,h=>by
   rw [HT.dJ,HT.dJ]
   by_cases e:x=y
   ·subst e
    rw [if_pos rfl,if_pos rfl]
    exact lG fun z=>h (by rw [z])
   ·rw [if_neg e,if_neg (Ne.symm e)]
    simp only [decide_eq_true_eq]
    omega
theorem jO (a:Ky):lj a a=false:=by unfold lj; rw [if_pos rfl]; exact kY _
theorem ix {a b c:Ky}(h1:lj a b=true)(h2:lj b c=true):lj a c=true:=by
 unfold lj at h1 h2 ⊢
 by_cases e1:a.1=b.1
 ·rw [if_pos e1] at h1
  by_cases e2:b.1=c.1
  ·rw [if_pos e2] at h2
   rw [if_pos (e1.trans e2)]
   exact lE h1 h2
  ·rw [if_neg e2] at h2
   rw [e1,if_neg e2]
   exact h2
 ·rw [if_neg e1] at h1
  have l1:=of_decide_eq_true h1
  by_cases e2:b.1=c.1
  ·rw [← e2,if_neg e1]
   exact h1
  ·rw [if_neg e2] at h2
   have l2:=of_decide_eq_true h2
   rw [if_neg (by omega)]
   exact decide_eq_true (by omega)
theorem iL {a b:Ky}(h:a≠b):lj a b=true∨lj b a=true:=by
 unfold lj
 by_cases e:a.1=b.1
 ·rw [if_pos e,if_pos e.symm]
  exact lG fun z=>h (Prod.ext e z)
 ·rw [if_neg e,if_neg (Ne.symm e)]
  simp only [decide_eq_true_eq]
  omega
noncomputable def cJ (ks:List Ky)(i:Nat):Ky:=ks.getD i (0,[])
noncomputable def rk (ks:List Ky)(i:Nat):Nat:=(List.range ks.length).countP fun j=>lj (cJ ks j) (cJ ks i)
theorem me {α:Type}{p q:α->Bool}:∀ {l:List α},(∀ x∈l,p x=true->q x=true)->(∃ x∈l,q x=true∧p x=false)->l.countP p < l.countP q
 | [],_,⟨x,hx,_⟩=>by cases hx
 | a :: l,h,⟨x,hx,h1,h2⟩=>by
   have le:∀ l':List α,(∀ x∈l',p x=true->q x=true)->l'.countP p≤l'.countP q:=fun l' h'=>List.countP_mono_left h'
   rw [List.countP_cons,List.countP_cons]
   rcases List.mem_cons.mp hx with rfl | hx
   ·rw [if_pos h1,if_neg (by rw [h2]; exact Bool.false_ne_true)]
    have:=le l fun x hx=>h x (List.mem_cons_of_mem _ hx)
    omega
   ·have ih:=me (l:=l) (fun x hx=>h x (List.mem_cons_of_mem _ hx)) ⟨x,hx,h1,h2⟩
    have h0:=h a List.mem_cons_self
    cases e:p a with
    | false=>simp only [Bool.false_eq_true,if_false]; omega
    | true=>rw [h0 e]; simp only [if_true]; omega
theorem ij {ks:List Ky}{i j:Nat}(hi:i < ks.length)(h:lj (cJ ks i) (cJ ks j)=true):rk ks i < rk ks j :=
 me (fun l _ hl=>ix hl h) ⟨i,List.mem_range.mpr hi,h,jO _⟩
theorem vp {ks:List Ky}{i j:Nat}(hi:i < ks.length)(hj:j < ks.length):decide (rk ks i < rk ks j)=lj (cJ ks i) (cJ ks j):=by
 cases e:lj (cJ ks i) (cJ ks j) with
 | true=>exact decide_eq_true (ij hi e)
 | false =>
   refine decide_eq_false fun z=>?_
   by_cases k:cJ ks i=cJ ks j
   ·unfold rk at z
    rw [k] at z
    exact Nat.lt_irrefl _ z
   ·rcases iL k with h | h
    ·rw [e] at h; cases h
    ·exact Nat.lt_asymm z (ij hj h)
theorem vV {ks:List Ky}(nd:ks.Nodup):∀ i j,i < ks.length->j < ks.length->i≠j->rk ks i≠rk ks j:=fun i j hi hj hne z=>by
 have k:cJ ks i≠cJ ks j:=fun e=>by
  have e':ks[i]=ks[j]:=by
   unfold cJ at e
   simpa [hi,hj] using e
  have pw:=List.pairwise_iff_getElem.mp (show ks.Pairwise (· ≠ ·) from nd)
  rcases Nat.lt_or_gt_of_ne hne with l | l
  ·exact pw i j _ _ l e'
  ·exact pw j i _ _ l e'.symm
 rcases iL k with h | h
 ·have:=ij hi h; omega
 ·have:=ij hj h; omega
noncomputable def sV (K:Frag)(H:Hp)(x:V)(k:Ky):Prop:=∃ a b rest,x = .ref a∧bc K H a (.int k.1 :: .ref b :: rest)∧bc K H b (k.2.map V.int)
noncomputable def cY (K:Frag)(H:Hp):List V->List Ky->Prop
 | [],[]=>True
 | x :: xs,k :: ks=>sV K H x k∧cY K H xs ks
 | _,_=>False
theorem cY.len {K:Frag}{H:Hp}:∀ {xs:List V}{ks:List Ky},cY K H xs ks->xs.length=ks.length
 | [],[],_=>rfl
 | _ :: _,_ :: _,⟨_,r⟩=>congrArg (· + 1) r.len
 | [],_ :: _,h=>h.elim
 | _ :: _,[],h=>h.elim
theorem cY.get {K:Frag}{H:Hp}:∀ {xs:List V}{ks:List Ky}{i:Nat}{x:V},cY K H xs ks->xs[i]?=some x->sV K H x (cJ ks i)
 | x :: xs,k :: ks,0,y,⟨h,_⟩,e=>by simp at e; subst e; exact h
 | x :: xs,k :: ks,i + 1,y,⟨_,r⟩,e=>by
   have:=r.get (i:=i) (x:=y) (by simpa using e)
   simpa [cJ] using this
 | [],[],i,y,_,e=>by simp at e
 | [],_ :: _,_,_,h,_=>h.elim
 | _ :: _,[],_,_,h,_=>h.elim
theorem gG {K:Frag}{H:Hp}:∀ ns:List Int,ba K H (ns.map D.int) (ns.map V.int)
 | []=>by unfold ba; rfl
 | n :: ns=>by unfold ba; exact ⟨_,_,rfl,by unfold aI; rfl,gG ns⟩
theorem w8 (ns:List Int):jl (.tup (ns.map D.int))≤1:=by
 unfold jl
 have:∀ ms:List Int,eE (ms.map D.int)=0:=fun ms=>by
  induction ms with
  | nil=>unfold eE; rfl
  | cons m ms ih=>rw [List.map_cons]; unfold eE; rw [ih]; unfold jl; rfl
 rw [this]
 omega
theorem ou:∀ ns ms:List Int,dn (ns.map D.int) (ms.map D.int)=decide (ns=ms)
 | [],[]=>by unfold dn; simp
 | [],m :: ms=>by unfold dn; simp
 | n :: ns,[]=>by unfold dn; simp
 | n :: ns,m :: ms=>by
   rw [List.map_cons,List.map_cons]
   unfold dn
   rw [ou ns ms]
   unfold dX
   by_cases e:n=m
   ·subst e; simp
   ·simp [e]
section
variable {X:Cx}{pins:List (Addr × Obj)}{σ:L2.St}{H:Hp}{s:Shared}
theorem xE {A:Around}{x y:V}{u v:Value}{k j:Ky}{C:Bool->Shared->Prop}{E:Value->Shared->Prop}(I:Inv X pins σ H s)(hA:A.units + 2 < cLine)(hx:sV X.K H x k)(hy:sV X.K H y j)(rx:aB x u)(ry:aB y v)(ne:k≠j)(h:C (lj k j) s):
 wpAny (model X.prog X.w) A (keyLt' (tuples' true) u v) C E s:=by
 obtain ⟨a,b,rest,rfl,h1,h2⟩:=hx
 obtain ⟨a',b',rest',rfl,h1',h2'⟩:=hy
 cases (show u=Value.ref a from rx)
 cases (show v=Value.ref a' from ry)
 obtain ⟨its,r1,⟨o1,g1,_,n1,d1⟩,_⟩:=I.tuple h1
 obtain ⟨its',r1',⟨o1',g1',_,n1',d1'⟩,_⟩:=I.tuple h1'
 refine kat_lt g1 d1 g1' d1' ?_
 cases r1 with
 | cons q1 r1 =>
   cases r1 with
   | cons q2 r1 =>
     cases r1' with
     | cons q1' r1' =>
       cases r1' with
       | cons q2' r1' =>
         obtain ⟨t,rfl⟩:=q1
         obtain ⟨t',rfl⟩:=q1'
         rename_i w2 _ w2' _
         cases (show w2=Value.ref b from q2)
         cases (show w2'=Value.ref b' from q2')
         show KatLex _ _ _ _ _ _ ((Value.int k.1 t,Value.int j.1 t'):: (Value.ref b,Value.ref b'):: _) 0 s
         refine kat_cons (SeqAt.EqAt.int_int k.1 t j.1 t' X.prog X.w _ _ ?_)
         have klt_def:lj k j=if k.1=j.1 then HT.cQ k.2 j.2 else decide (k.1 < j.1):=rfl
         refine kat_go (fun e=>kat_yes ?_) fun e=>kat_no ?_
         ·have e1:k.1=j.1:=by simpa using e
          have n2:k.2≠j.2:=fun z=>ne (Prod.ext e1 z)
          have dd:=(iA I 1 A (.tup (k.2.map D.int)) (.tup (j.2.map D.int)) (.ref b) (.ref b') (.ref b) (.ref b') (w8 _) (by omega) (by unfold aI; exact ⟨b,_,rfl,h2,gG _⟩) (by unfold aI; exact ⟨b',_,rfl,h2',gG _⟩) rfl rfl).2.1
          have e2:dX (.tup (k.2.map D.int)) (.tup (j.2.map D.int))=false:=by unfold dX; rw [ou]; exact decide_eq_false n2
          rw [e2] at dd
          refine kat_cons (dd X.prog X.w _ _ (kat_no ?_))
          rw [klt_def,if_pos e1] at h
          obtain ⟨its2,p2,t2,_⟩:=I.tuple h2
          obtain ⟨its2',p2',t2',_⟩:=I.tuple h2'
          exact kat_one _ _ (HT.qh t2 t2' (kI p2) (kI p2') (by omega) h)
         ·have e1:k.1≠j.1:=by simpa using e
          rw [klt_def,if_neg e1] at h
          exact oneLt_int h
theorem xu (I:Inv X pins σ H s)(xs:List V):∀ (ks:List Ky)(us:List Value),cY X.K H xs ks->aJ xs us->∃ fs:List Value,KatTups s.heap us fs∧fs.length=us.length∧∀ f∈fs,∃ i t,f=Value.int i t:=by
 induction xs with
 | nil =>
   intro ks us _ r
   cases r
   exact ⟨[],.nil,rfl,fun f hf=>by cases hf⟩
 | cons x xs ih =>
   intro ks us h r
   cases ks with
   | nil=>exact h.elim
   | cons k ks =>
     cases r with
     | cons rx rv =>
       rename_i u us
       obtain ⟨⟨a,b,rest,e,h1,_⟩,hr⟩:=h
       obtain ⟨fs,t,hl,hf⟩:=ih ks us hr rv
       subst e
       cases (show u=Value.ref a from rx)
       obtain ⟨its,r1,⟨o1,g1,c1,n1,d1⟩,_⟩:=I.tuple h1
       cases r1 with
       | cons q1 r1 =>
         obtain ⟨tk,rfl⟩:=q1
         refine ⟨Value.int k.1 tk :: fs,.cons g1 c1 d1 rfl t,by simp [hl],fun f hf'=>?_⟩
         rcases List.mem_cons.mp hf' with rfl | z
         ·exact ⟨_,_,rfl⟩
         ·exact hf f z
theorem jy {A:Around}{xs:List V}{ks:List Ky}{us:List Value}(I:Inv X pins σ H s)(hA:A.units + 2 < cLine)(hk:cY X.K H xs ks)(rv:aJ xs us)(nd:ks.Nodup)(h2:2≤us.length):mY X.prog X.w A us (rk ks) s:=by
 obtain ⟨fs,t,hl,hf⟩:=xu I xs ks us hk rv
 have len1:=hk.len
 have len2:=rv.length
 refine ⟨tuples' true,fun Q hq=>kat_kind (T:=Value.type "int") t (by omega) (fun v hv=>?_) (by decide) hq,fun i j C hi hj hne hc=>?_⟩
 ·obtain ⟨i,tk,rfl⟩:=hf v hv
  exact .now
 ·have gi:∃ x,xs[i]?=some x∧aB x (us.getD i .none):=by
   have hi':i < xs.length:=by omega
   obtain ⟨u,e,r⟩:=rv.get (i:=i) (x:=xs[i]) (by simp [hi'])
   refine ⟨xs[i],by simp [hi'],?_⟩
   rw [List.getD_eq_getElem?_getD,e]
   exact r
  have gj:∃ x,xs[j]?=some x∧aB x (us.getD j .none):=by
   have hj':j < xs.length:=by omega
   obtain ⟨u,e,r⟩:=rv.get (i:=j) (x:=xs[j]) (by simp [hj'])
   refine ⟨xs[j],by simp [hj'],?_⟩
   rw [List.getD_eq_getElem?_getD,e]
   exact r
  obtain ⟨x,ex,rx⟩:=gi
  obtain ⟨y,ey,ry⟩:=gj
  rw [vp (by omega) (by omega)] at hc
  have kne:cJ ks i≠cJ ks j:=fun z=>by
   have e':ks[i]'(by omega)=ks[j]'(by omega):=by
    unfold cJ at z
    simpa [show i < ks.length by omega,show j < ks.length by omega] using z
   have pw:=List.pairwise_iff_getElem.mp (show ks.Pairwise (· ≠ ·) from nd)
   rcases Nat.lt_or_gt_of_ne hne with l | l
   ·exact pw i j _ _ l e'
   ·exact pw j i _ _ l e'.symm
  exact xE I hA (hk.get ex) (hk.get ey) rx ry kne hc
end
section
variable {α:Type}
noncomputable def lu (k:Ky)(x:α):List (Ky × α)->List (Ky × α)
 | []=>[(k,x)]
 | (j,y):: r=>if lj k j=true then (k,x):: (j,y):: r else (j,y):: lu k x r
noncomputable def cA:List (Ky × α)->List (Ky × α)
 | []=>[]
 | (k,x):: r=>lu k x (cA r)
theorem iI (k:Ky)(x:α):∀ l:List (Ky × α),(lu k x l).Perm ((k,x):: l)
 | []=>.refl _
 | (j,y):: r=>by
   unfold lu
   split
   ·exact .refl _
   ·exact ((iI k x r).cons _).trans (.swap _ _ _)
theorem cz:∀ l:List (Ky × α),(cA l).Perm l
 | []=>.refl _
 | (k,x):: r=>(iI k x _).trans ((cz r).cons _)
noncomputable def zV (l:List (Ky × α)):Prop:=l.Pairwise fun a b=>lj a.1 b.1=true
theorem sk {k:Ky}{x:α}:∀ {l:List (Ky × α)},zV l->(∀ p∈l,p.1≠k)->zV (lu k x l)
 | [],_,_=>List.pairwise_singleton _ _
 | (j,y):: r,h,hn=>by
   obtain ⟨h1,h2⟩:=List.pairwise_cons.mp h
   unfold lu
   by_cases e:lj k j=true
   ·rw [if_pos e]
    refine List.pairwise_cons.mpr ⟨fun p hp=>?_,h⟩
    rcases List.mem_cons.mp hp with rfl | hp
    ·exact e
    ·exact ix e (h1 p hp)
   ·rw [if_neg e]
    have jk:lj j k=true:=(iL (hn _ List.mem_cons_self)).resolve_right e
    refine List.pairwise_cons.mpr ⟨fun p hp=>?_,sk h2 fun p hp=>hn p (List.mem_cons_of_mem _ hp)⟩
    rcases List.mem_cons.mp ((iI k x r).mem_iff.mp hp) with rfl | hp
    ·exact jk
    ·exact h1 p hp
theorem kQ:∀ {l:List (Ky × α)},(l.map (·.1)).Nodup->zV (cA l)
 | [],_=>.nil
 | (k,x):: r,h=>by
   obtain ⟨h1,h2⟩:=List.nodup_cons.mp h
   exact sk (kQ h2) fun p hp z=>h1 (z ▸ List.mem_map_of_mem (f:=(·.1)) ((cz r).mem_iff.mp hp))
theorem lM:∀ {l1 l2:List (Ky × α)},zV l1->zV l2->l1.Perm l2->l1=l2
 | [],l2,_,_,p=>(List.nil_perm.mp p).symm
 | a :: l1,[],_,_,p=>(List.nil_perm.mp p.symm)
 | a :: l1,b :: l2,h1,h2,p=>by
   obtain ⟨u1,v1⟩:=List.pairwise_cons.mp h1
   obtain ⟨u2,v2⟩:=List.pairwise_cons.mp h2
   have e:a=b:=by
    rcases List.mem_cons.mp (p.mem_iff.mp List.mem_cons_self) with z | z
    ·exact z
    ·rcases List.mem_cons.mp (p.mem_iff.mpr (List.mem_cons_self (a:=b) (l:=l2))) with w | w
     ·exact w.symm
     ·have c1:=u2 a z
      have c2:=u1 b w
      have c3:=ix c1 c2
      rw [jO] at c3
      cases c3
   subst e
   rw [lM v1 v2 (List.Perm.cons_inv p)]
theorem ph {l1 l2:List (Ky × α)}(nd:(l2.map (·.1)).Nodup)(h:zV l1)(p:l1.Perm l2):l1=cA l2:=lM h (kQ nd) (p.trans (cz l2).symm)
end
noncomputable def BC (xs:List V)(p:Array Nat):List V:=p.toList.map fun i=>xs.getD i .non
theorem oj {xs:List V}{us:List Value}(rv:aJ xs us){n:Nat}{r:Nat->Nat}{p:Array Nat}(P:Pm n r p)(hn:n≤xs.length):aJ (BC xs p) (cO us p):=by
 have key:∀ l:List Nat,(∀ i∈l,i < xs.length)->aJ (l.map fun i=>xs.getD i .non) (l.map fun i=>us.getD i Value.none):=by
  intro l
  induction l with
  | nil=>intro _; exact .nil
  | cons i l ih =>
    intro h
    have hi:=h i List.mem_cons_self
    obtain ⟨u,e,r⟩:=rv.get (i:=i) (x:=xs[i]) (by simp [hi])
    refine .cons ?_ (ih fun j hj=>h j (List.mem_cons_of_mem _ hj))
    show aB (xs.getD i .non) (us.getD i Value.none)
    rw [List.getD_eq_getElem?_getD,List.getD_eq_getElem?_getD,e,show xs[i]?=some xs[i] by simp [hi]]
    exact r
 refine key p.toList fun i hi=>?_
 have z:i∈(List.range n):=by
  have pl:p.toList.Perm (List.range n):=by simpa using P.perm.toList
  exact pl.mem_iff.mp hi
 have:=List.mem_range.mp z
 omega
theorem pe {xs:List V}{ks:List Ky}(hl:xs.length=ks.length)(nd:ks.Nodup){p:Array Nat}(P:Pm xs.length (rk ks) p)(U:Up (rk ks) p xs.length):BC xs p=(cA (ks.zip xs)).map (·.2):=by
 have pl:p.toList.Perm (List.range xs.length):=by simpa using P.perm.toList
 have e1:(List.range xs.length).map (fun i=>(cJ ks i,xs.getD i V.non))=ks.zip xs:=by
  apply List.ext_getElem
  ·simp [hl]
  ·intro i h1 h2
   have hi:i < xs.length:=by simpa using h1
   have hk:i < ks.length:=by omega
   simp [cJ,hi,hk]
 have z:p.toList.map (fun i=>(cJ ks i,xs.getD i V.non))=cA (ks.zip xs):=by
  refine ph ?_ ?_ ?_
  ·rw [List.map_fst_zip (by omega)]; exact nd
  ·unfold zV
   rw [List.pairwise_map]
   refine List.pairwise_iff_getElem.mpr fun i j hi hj hij=>?_
   have sz:=P.size
   rw [Array.length_toList] at hi hj
   have u:=U i j hij (by omega)
   have gi:p.getD i 0=p.toList[i]:=by simp [Array.getD,hi]
   have gj:p.getD j 0=p.toList[j]:=by simp [Array.getD,hj]
   rw [gi,gj] at u
   have bi:p.toList[i] < ks.length:=by rw [← gi,← hl]; exact P.lt i (by omega)
   have bj:p.toList[j] < ks.length:=by rw [← gj,← hl]; exact P.lt j (by omega)
   rw [← vp bi bj]
   exact decide_eq_true u
  ·exact (pl.map _).trans (by rw [e1])
 rw [← z,List.map_map]
 rfl
noncomputable def A5 (K:Frag):List V->Hp->VK->Prop:=fun vs H Q=>∃ l xs ks,vs=[.ref l]∧aO K H l xs∧xs.length < 64∧cY K H xs ks∧ks.Nodup∧∀ D,H D=none->Q (.ref D) (upd H D (.lst ((cA (ks.zip xs)).map (·.2))))
section
variable {X:Cx}{k:Nat}
theorem oS (hr:Room (k + 2) X.A):cR X (.builtin "sorted") (A5 X.K):=by
 intro pins s σ H vs us Q I r h
 obtain ⟨l,xs,ks,rfl,hl,h64,hk,nd,q⟩:=h
 obtain ⟨u,rfl,ru⟩:=dH r
 cases (show u=Value.ref l from ru)
 obtain ⟨its,rv,pl,hz⟩:=I.list hl
 have ln:=rv.length
 have lk:=hk.len
 have inj:=vV nd
 refine uI (r:=rk ks) pl.isList (by omega) (fun i j hi hj=>inj i j (by omega) (by omega)) (fun h2 h' kp=>?_) fun h' D p c kp hD e pm up=>?_
 ·exact jy (s:={ s with heap:=h' }) (I.kept (t':=s.toks) kp) (by have:=(hr.in1.in1).units; omega) hk rv nd h2
 ·have pm':Pm xs.length (rk ks) p:=by rw [ln]; exact pm
  have up':Up (rk ks) p xs.length:=by rw [ln]; exact up
  have hv:=oj rv pm' (Nat.le_refl _)
  rw [pe lk nd pm' up'] at hv
  have hlen:((cA (ks.zip xs)).map (·.2)).length≤sizeLine:=by
   rw [List.length_map,(cz _).length_eq,List.length_zip]
   exact Nat.le_trans (Nat.min_le_right _ _) (cU h64)
  exact ⟨.ref D,_,I.newObj (t':=s.toks) (o:=.lst ((cA (ks.zip xs)).map (·.2))) kp hD ⟨hlen,_,c,hv,e⟩,rfl,q D (I.hnone hD)⟩
end
noncomputable def mh (sp:Sp):List V->Hp->(List V->Hp->Prop)->Prop
 | [],H,R=>R [] H
 | x :: xs,H,R=>sp [x] H (fun k H1=>mh sp xs H1 fun ks H2=>R (k :: ks) H2) fun _ _ _=>False
section
variable {X:Cx}{pins:List (Addr × Obj)}{σ:L2.St}{H:Hp}{s:Shared}
theorem tI {D:Addr}{o:HO}(I:Inv X pins σ H s)(f:c6 X pins H D)(hD:X.s₀.heap.objs.size≤D)(new:bg X.prog X.w (upd H D o) s.heap D o):Inv X pins σ (upd H D o) s:=by
 obtain ⟨f0,f1,f2,f3,f4,f5⟩:=f
 have u:=I.base
 refine ⟨I.ok,I.os,I.bare,⟨u.keep,u.slot,fun b' o' e n hx=>?_,u.there,fun b' xs e=>?_,fun b' o' u' e=>?_,fun b' ps e=>?_⟩,I.loc,I.cell,?_,fun x c e=>?_,fun p hp=>?_,dA I.hok f0 new,I.len⟩
 ·rw [al (Nat.ne_of_lt (Nat.lt_of_lt_of_le (Heap.lt_size e) hD))]; exact u.free b' o' e n hx
 ·rw [al (ap (u.tups b' xs e) f0)]; exact u.tups b' xs e
 ·rw [al (ap (u.frzs b' o' u' e) f0)]; exact u.frzs b' o' u' e
 ·obtain ⟨m,q⟩:=u.tbls b' ps e
  exact ⟨m,by rw [al (ap q f0)]; exact q⟩
 ·rw [al (Ne.symm f1)]; exact I.free
 ·rw [al (f4 x c e)]; exact I.freeC x c e
 ·obtain ⟨e,n,r⟩:=I.pin p hp
  exact ⟨e,by rw [al (f5 p hp)]; exact n,r⟩
theorem xB {b c:Addr}{ob:Obj}(f:c6 X pins H b)(h:c≠b):c6 X (pins++[(c,ob)]) H b:=by
 obtain ⟨f0,f1,f2,f3,f4,f5⟩:=f
 refine ⟨f0,f1,f2,f3,f4,fun p hp=>?_⟩
 rw [← List.append_assoc] at hp
 rcases List.mem_append.mp hp with z | z
 ·exact f5 p z
 ·have e:p=(c,ob):=by simpa using z
  subst e
  exact h
theorem ng {H':Hp}{b:Addr}(f:c6 X pins H b)(h:H' b=none):c6 X pins H' b:=⟨h,f.2⟩
theorem r8 {b:Addr}{ob:Obj}(I:Inv X pins σ H s)(f:c6 X pins H b)(e:s.heap.get? b=some ob)(d:∀ v,ob.data ≠ .cell v):Inv X (pins++[(b,ob)]) σ H s:=I.pins_of fun p hp=>by
 rcases List.mem_append.mp hp with z | z
 ·exact I.pin p (List.mem_append_right _ z)
 ·have e1:p=(b,ob):=by simpa using z
  subst e1
  exact ⟨e,f.1,f.2.1,f.2.2.1,d⟩
theorem l8 {b:Addr}{ob:Obj}(I:Inv X (pins++[(b,ob)]) σ H s):Inv X pins σ H s:=I.pins_of fun p hp=>I.pin p (List.mem_append_right _ (List.mem_append_left _ hp))
theorem xj {b:Addr}{ob:Obj}(I:Inv X (pins++[(b,ob)]) σ H s):s.heap.get? b=some ob∧H b=none:=by
 obtain ⟨e,n,_⟩:=I.pin (b,ob) (List.mem_append_right _ (List.mem_append_right _ (by simp)))
 exact ⟨e,n⟩
end
theorem kd {c:String}{xs:Array Value}{n:Nat}:∀ v,(seqObj c xs n).data ≠ .cell v:=fun v z=>by cases z
section
variable {X:Cx}{pins:List (Addr × Obj)}{σ:L2.St}{k:Nat}{f:Addr}{fd:FuncData}{ps:List Str}{sp:Sp}{A:Around}{E:Value->Shared->Prop}
theorem wV {H:Hp}{s:Shared}{x:V}{u:Value}{Q:VK}(F:FnOk X.prog X.w X.K X.mg X.base (aU X.prog X.w) k f fd ps sp)(hr:Room k A)(hA:∀ H s,Inv X pins σ H s->Env0 X.prog X.w X.K X.mg X.base A X.stack s H)(hb:ax X.K fd ps [])(I:Inv X pins σ H s)(r:aB x u)(h:sp [x] H Q fun _ _ _=>False):
 wpAny (model X.prog X.w) A (call (.ref f) [u]) (EP X pins σ Q) (fun _ _=>False) s:=by
 have hl:([u]:List Value).length + ([]:List Value).length=ps.length:=by have:=F.len _ _ _ _ h; simpa using this
 have bd:=hb s [u] I.kIn hl
 rw [List.append_nil] at bd
 refine wpAny_call (codeAny_mono (F.run A X.stack s H ⟨[u],[]⟩ [u] [x] Q _ hr (hA H s I) bd (.cons r .nil) h) fun res s' hq=>?_)
 cases res with
 | error e =>
   obtain ⟨a,cls,a0,B,H',_,_,_,_,hE⟩:=hq
   exact hE.elim
 | ok fl =>
   cases fl with
   | ret v=>exact I.after hq
   | next=>exact False.elim hq
   | brk=>exact False.elim hq
   | cont=>exact False.elim hq
end
noncomputable abbrev kb (X:Cx)(xs:List V)(Q:VK):List V->Hp->Prop:=fun ks H2=>∃ kz,cY X.K H2 ks kz∧kz.Nodup∧∀ D,H2 D=none->Q (.ref D) (upd H2 D (.lst ((cA (kz.zip xs)).map (·.2))))
section
variable {X:Cx}{pins:List (Addr × Obj)}{σ:L2.St}{k:Nat}{f:Addr}{fd:FuncData}{ps:List Str}{sp:Sp}{A:Around}{E:Value->Shared->Prop}
theorem yN {ks vs:List Value}(h:ks.length=vs.length):((ks.toArray.zip vs.toArray).map (·.2))=vs.toArray:=by
 apply Array.toList_inj.mp
 rw [Array.toList_map,ksk_zip]
 simp only [List.toList_toArray] at *
 exact List.map_snd_zip (by omega)
theorem uC {H:Hp}{s:Shared}{D kS:Addr}{e1 c:Nat}{xs kV:List V}{us ks:List Value}{Q:VK}{P:PySem.Fin->Shared->Prop}(hA:A.units + 2 < cLine)(hD:X.s₀.heap.objs.size≤D)(fD:c6 X pins H D)(fS:c6 X pins H kS)(ne:kS≠D)
 (I:Inv X pins σ H s)(eD:s.heap.get? D=some (seqObj "list" #[] e1))(eS:s.heap.get? kS=some (seqObj "list" ks.toArray c))(rx:aJ xs us)(rk':aJ kV ks)(hl:kV.length=xs.length)(h64:xs.length < 64)(w:kb X xs Q kV H)
 (hP:∀ s',EP X pins σ Q (.ref D) s'->P (.done (.ret .none)) s'):wpAny (model X.prog X.w) A (ksk_end D false us.toArray e1 (.ref kS) ks.toArray) P E s:=by
 obtain ⟨kz,hk,nd,q⟩:=w
 have l1:=rx.length
 have l2:=rk'.length
 have l3:=hk.len
 have inj:=vV nd
 have fin:∀ p,Pm xs.length (rk kz) p->Up (rk kz) p xs.length->∀ st:SortSt,(arrOf st).map (·.2)=(cO us p).toArray->failedOf st=none->wpAny (model X.prog X.w) A (ksk_tail D false e1 (.ref kS) st) P E s:=fun p pm up st har hf=>by
  have vls:=oj rx pm (Nat.le_refl _)
  rw [pe (by omega) nd pm up] at vls
  have hlen:((cA (kz.zip xs)).map (·.2)).length≤sizeLine:=by
   rw [List.length_map,(cz _).length_eq,List.length_zip]
   exact Nat.le_trans (Nat.min_le_right _ _) (cU h64)
  have olen:(cO us p).toArray.size≤sizeLine:=by rw [List.size_toArray,← vls.length]; exact hlen
  have sb1:=Heap.SameBut.update s.heap kS (Obj.mapSeq fun _=>(#[]:Array Value))
  have eD1:(s.heap.update kS (Obj.mapSeq fun _=>(#[]:Array Value))).get? D=some (seqObj "list" #[] e1):=(sb1.2 D (Ne.symm ne)).trans eD
  have I1:Inv X pins σ H { s with heap:=s.heap.update kS (Obj.mapSeq fun _=>(#[]:Array Value)) }:=dh I fS sb1
  unfold ksk_tail
  dsimp only
  rw [har]
  refine wpAny_bind (listUpdate_at eS rfl (wpAny_bind (wpAny_letGo ?_)) (by rw [List.size_toArray,← l2,hl]; exact cU h64) (Nat.zero_le _))
  generalize s.heap.update kS (Obj.mapSeq fun _=>(#[]:Array Value))=h1 at eD1 I1 ⊢
  have sb2:=Heap.SameBut.update h1 D (Obj.mapSeq fun _=>(cO us p).toArray)
  obtain ⟨c2,hc2⟩:∃ c2,(h1.update D (Obj.mapSeq fun _=>(cO us p).toArray)).get? D=some (seqObj "list" (cO us p).toArray c2):=⟨_,get?_update_seq eD1 fun _=>(cO us p).toArray⟩
  have I2:Inv X pins σ H { s with heap:=h1.update D (Obj.mapSeq fun _=>(cO us p).toArray) }:=dh (s:={ s with heap:=h1 }) I1 fD sb2
  have I3:=tI (o:=.lst ((cA (kz.zip xs)).map (·.2))) I2 fD hD ⟨hlen,_,c2,vls,hc2⟩
  refine wpAny_bind (seqEpoch_at eD1 rfl (wpAny_bind (listUpdate_at eD1 rfl ?_ (Nat.zero_le _) (Nat.le_succ_of_le olen))))
  rw [hf]
  simp only [bne_self_eq_false,Bool.false_eq_true,if_false]
  exact wpAny_pure (hP _ ⟨.ref D,_,I3,rfl,q D fD.1⟩)
 have P0:Pm xs.length (rk kz) (List.range xs.length).toArray:=oP (fun i j hi hj=>inj i j (by omega) (by omega)) (Array.Perm.refl _)
 unfold ksk_end
 dsimp only
 rw [if_neg Bool.false_ne_true]
 simp only [Bool.false_eq_true,if_false]
 by_cases h2:us.toArray.size < 2
 ·have small:xs.length < 2:=by rw [l1]; simpa using h2
  rw [if_pos h2,if_pos h2]
  refine wpAny_bind (wpAny_pure ?_)
  rw [StateT.run_pure]
  refine wpAny_bind (wpAny_pure ?_)
  refine fin (List.range xs.length).toArray P0 (fun i j hij hj=>by omega) _ ?_ rfl
  show (ks.toArray.zip us.toArray).map (·.2)=_
  rw [yN (by omega),l1,pc]
 ·have big:2≤us.length:=by simpa using h2
  rw [if_neg h2,if_neg h2]
  obtain ⟨κ,hkind,hask⟩:=jy (A:=A) I hA hk rk' nd (by omega)
  refine wpAny_bind (wpAny_mono (hkind (fun κ' s0=>(kas_sort us.length).kasWp (kas_ask X.prog X.w A κ' ks) (fun p s'=>s'=s∧Pm us.length (rk kz) p∧Up (rk kz) p us.length) s0) (sC (n:=us.length) (r:=rk kz) (fun i j hi hj=>inj i j (by omega) (by omega)) (fun i j C hi hj=>hask i j C (by omega) (by omega)) (by omega) fun p pm up=>⟨rfl,pm,up⟩)) (fun κ' s0 hw=>?_) fun _ _ x=>x.elim)
  refine wpAny_bind (wpAny_mono (kat_run (κ:=κ') (Q:=fun st' s'=>∃ p:Array Nat,arrOf st'=p.map (kas_item (ks.toArray.zip us.toArray))∧failedOf st'=none∧s'=s∧Pm us.length (rk kz) p∧Up (rk kz) p us.length) (by omega) big (by omega) (fun p' st' s' _ a2 a3 a4=>⟨p',a2,a3,a4⟩) hw) ?_ fun _ _ e=>e)
  rintro ⟨⟨⟩,st'⟩ s' ⟨p,har,hf,rfl,pm,up⟩
  exact fin p (by rw [l1]; exact pm) (by rw [l1]; exact up) st' (kat_snds (by omega) har) hf
end
section
variable {X:Cx}{pins:List (Addr × Obj)}{σ:L2.St}{k:Nat}{f:Addr}{fd:FuncData}{ps:List Str}{sp:Sp}{A:Around}{E:Value->Shared->Prop}
theorem vh {α:Type}{l:List α}{j:Nat}{x:α}(h:l[j]?=some x):l.drop j=x :: l.drop (j + 1):=by
 obtain ⟨hj,e⟩:=List.getElem?_eq_some_iff.mp h
 rw [List.drop_eq_getElem_cons hj,e]
theorem lB {H:Hp}{s:Shared}{D:Addr}{n:Nat}{xs:List V}{us:List Value}{Q:VK}{P:PySem.Fin->Shared->Prop}(F:FnOk X.prog X.w X.K X.mg X.base (aU X.prog X.w) k f fd ps sp)(hr:Room k A)(hE:∀ pins' H s,Inv X pins' σ H s->Env0 X.prog X.w X.K X.mg X.base A X.stack s H)(hb:ax X.K fd ps [])
 (hD:X.s₀.heap.objs.size≤D)(fD:c6 X pins H D)(I:Inv X pins σ H s)(eD:s.heap.get? D=some (seqObj "list" us.toArray n))(rx:aJ xs us)(h64:xs.length < 64)(h:mh sp xs H (kb X xs Q))
 (hP:∀ s',EP X pins σ Q (.ref D) s'->P (.done (.ret .none)) s'):wpAny (model X.prog X.w) A (ksk_tree D (.ref f) false) P E s:=by
 have l1:=rx.length
 have s64:us.toArray.size≤sizeLine:=by rw [List.size_toArray,← l1]; exact cU h64
 obtain ⟨e1,eD1⟩:∃ e1,(s.heap.update D (Obj.mapSeq fun _=>(#[]:Array Value))).get? D=some (seqObj "list" #[] e1):=⟨_,get?_update_seq eD fun _=>#[]⟩
 have I1:Inv X pins σ H { s with heap:=s.heap.update D (Obj.mapSeq fun _=>(#[]:Array Value)) }:=dh I fD (Heap.SameBut.update _ _ _)
 unfold ksk_tree
 refine wpAny_bind (listItems_at eD rfl (wpAny_bind (listUpdate_at eD rfl (wpAny_bind (seqEpoch_at eD1 rfl (wpAny_bind (wpAny_newTuple ?_ (by show us.length≤_; rw [← l1]; exact cU h64))))) s64 (Nat.zero_le _))))
 refine wpAny_bind (wpAny_newList (wpAny_holding ?_) (Nat.zero_le _))
 generalize s.heap.update D (Obj.mapSeq fun _=>(#[]:Array Value))=h1 at eD1 I1 ⊢
 dsimp only
 have I2:Inv X pins σ H { s with heap:=h1.push (seqObj "tuple" us.toArray 0) }:=I1.kept (t':=s.toks) fun b o q=>Heap.get?_push_of_some _ q
 have eD2:(h1.push (seqObj "tuple" us.toArray 0)).get? D=some (seqObj "list" #[] e1):=Heap.get?_push_of_some _ eD1
 show wpAny (model X.prog X.w) A (ksk_rest D (.ref f) false us.toArray e1 (.ref (h1.push (seqObj "tuple" us.toArray 0)).objs.size)) P E { s with heap:=(h1.push (seqObj "tuple" us.toArray 0)).push (seqObj "list" #[] 0) }
 generalize h1.push (seqObj "tuple" us.toArray 0)=h2 at I2 eD2 ⊢
 have ne:h2.objs.size≠D:=Nat.ne_of_gt (Heap.lt_size eD2)
 have fS0:c6 X pins H h2.objs.size:=I2.fpOk (Nat.le_refl _) (I2.hok.fresh (Nat.le_refl _))
 have I3:Inv X pins σ H { s with heap:=h2.push (seqObj "list" #[] 0) }:=I2.kept (t':=s.toks) fun b o q=>Heap.get?_push_of_some _ q
 have eD3:(h2.push (seqObj "list" #[] 0)).get? D=some (seqObj "list" #[] e1):=Heap.get?_push_of_some _ eD2
 have eS3:(h2.push (seqObj "list" #[] 0)).get? h2.objs.size=some (seqObj "list" ([]:List Value).toArray 0):=Heap.get?_push_size _ rfl
 have fD':∀ {H':Hp},H' D=none->c6 X pins H' D:=fun z=>ng fD z
 have fS':∀ {H':Hp},H' h2.objs.size=none->c6 X pins H' h2.objs.size:=fun z=>ng fS0 z
 generalize h2.objs.size=kS at ne fS0 eS3 fS' ⊢
 unfold ksk_rest
 refine wpAny_bind (wpAny_rule ?_)
 rw [List.forIn_toArray]
 let II:Nat->Shared->Prop:=fun j s'=>∃ (H':Hp)(c:Nat)(kV:List V)(ks:List Value),Inv X (pins++[(D,seqObj "list" #[] e1)]) σ H' s'∧s'.heap.get? kS=some (seqObj "list" ks.toArray c)∧H' kS=none∧aJ kV ks∧kV.length=j∧mh sp (xs.drop j) H' fun k2 H2=>kb X xs Q (kV++k2) H2
 have I4:Inv X (pins++[(D,seqObj "list" #[] e1)]) σ H { s with heap:=h2.push (seqObj "list" #[] 0) }:=r8 I3 fD eD3 kd
 refine wpAny_bind (wpAny_mono (ksk_fold (E:=E) (Q:=fun _ s'=>II us.length s') II us 0 { s with heap:=h2.push (seqObj "list" #[] 0) } ⟨H,0,[],[],I4,eS3,fS0.1,.nil,rfl,by simpa using h⟩ (fun j u s' hu hI=>?_) fun s' hd=>by simpa using hd) (fun _ s' hI=>?_) fun _ _ e=>e)
 ·rw [Nat.zero_add] at hI ⊢
  obtain ⟨H',c,kV,ks,J,eS,nS,rk',hl,t⟩:=hI
  have hj:j < us.length:=(List.getElem?_eq_some_iff.mp hu).1
  obtain ⟨x,hx⟩:∃ x,xs[j]?=some x:=⟨xs[j]'(by omega),by simp [show j < xs.length by omega]⟩
  obtain ⟨u',hu',rx'⟩:=rx.get hx
  rw [hu] at hu'
  cases hu'
  rw [vh hx] at t
  have fS1:c6 X (pins++[(D,seqObj "list" #[] e1)]) H' kS:=xB (fS' nS) (Ne.symm ne)
  have J2:=r8 J fS1 eS kd
  refine wpAny_bind (wpAny_attempt (wpAny_mono (wV F hr (hE _) hb J2 rx' t) (fun kv s2 hk=>?_) fun _ _ z=>z.elim))
  obtain ⟨v,H2,J3,rv,t2⟩:=hk
  obtain ⟨eS2,nS2⟩:=xj J3
  have J4:=l8 J3
  have fS2:c6 X (pins++[(D,seqObj "list" #[] e1)]) H2 kS:=ng fS1 nS2
  have ea:ks.toArray.push kv=(ks++[kv]).toArray:=by simp
  obtain ⟨c2,hc2⟩:∃ c2,(s2.heap.update kS (Obj.mapSeq (·.push kv))).get? kS=some (seqObj "list" (ks++[kv]).toArray c2):=⟨_,by rw [← ea]; exact get?_update_seq eS2 (·.push kv)⟩
  have lk:=rk'.length
  refine wpAny_bind (listUpdate_at eS2 rfl ?_ (by rw [List.size_toArray]; exact cU (by omega)) (Nat.le_trans (Nat.le_of_eq (Array.size_push ..)) (by rw [List.size_toArray]; exact Nat.succ_le_succ (cU (by omega)))))
  refine wpAny_pure ⟨rfl,H2,c2,kV++[v],ks++[kv],dh J4 fS2 (Heap.SameBut.update _ _ _),hc2,nS2,rk'.append (.cons rv .nil),by simp [hl],?_⟩
  have e:∀ k2:List V,kV++[v]++k2=kV++v :: k2:=fun k2=>by simp
  simp only [e]
  exact t2
 ·obtain ⟨H',c,kV,ks,J,eS,nS,rk',hl,t⟩:=hI
  rw [← l1,List.drop_length] at t
  have w:kb X xs Q kV H':=by
   have z:kb X xs Q (kV++[]) H':=t
   rwa [List.append_nil] at z
  obtain ⟨eD4,nD⟩:=xj J
  refine wpAny_bind (listItems_at eS rfl ?_)
  exact uC (by have:=hr.units; omega) hD (fD' nD) (fS' nS) ne (l8 J) eD4 eS rx rk' (by omega) h64 w hP
theorem qP {H:Hp}{s:Shared}{l:Addr}{xs:List V}{Q:VK}(F:FnOk X.prog X.w X.K X.mg X.base (aU X.prog X.w) k f fd ps sp)(hr:Room (k + 2) X.A)(hb:ax X.K fd ps [])
 (I:Inv X pins σ H s)(hl:aO X.K H l xs)(h64:xs.length < 64)(h:mh sp xs H (kb X xs Q)):wpAny (model X.prog X.w) X.A (call (.builtin "sorted") [.ref l] [(Str.ofString "key",.ref f)]) (EP X pins σ Q) E s:=by
 obtain ⟨us,rx,pl,_⟩:=I.list hl
 have l1:=rx.length
 refine call_function_entry_kw kind_sorted plain_sorted entry_sorted (ksk_s1 _ _) ?_
 unfold Builtin.«sorted»
 refine wpAny_bind (m:=checkCount "sorted" 1 1 _) (wpAny_pure (wpAny_bind (collect_list pl.isList (wpAny_bind (wpAny_newList ?_ (cU (by omega)))) (cU (by omega)))))
 have sz:((s.heap.push (seqObj "list" #[] 0)).update s.heap.objs.size (Obj.mapSeq (·++us.toArray))).objs.size=s.heap.objs.size + 1:=by rw [Heap.size_update]; exact size_push' _ _
 have at1:(((s.heap.push (seqObj "list" #[] 0)).update s.heap.objs.size (Obj.mapSeq (·++us.toArray))).push (seqObj "list" us.toArray 0)).get? (s.heap.objs.size + 1)=some (seqObj "list" us.toArray 0):=by
  rw [← sz]; exact Heap.get?_push_size _ rfl
 have old:∀ b o,s.heap.get? b=some o->(((s.heap.push (seqObj "list" #[] 0)).update s.heap.objs.size (Obj.mapSeq (·++us.toArray))).push (seqObj "list" us.toArray 0)).get? b=some o:=fun b o q=>by
  have lt:b < s.heap.objs.size:=Heap.lt_size q
  refine Heap.get?_push_of_some _ ?_
  rw [Heap.get?_update_ne _ _ _ _ (Nat.ne_of_lt lt)]; exact Heap.get?_push_of_some _ q
 show wpAny _ _ _ _ _ { s with heap:=((s.heap.push (seqObj "list" #[] 0)).update s.heap.objs.size (Obj.mapSeq (·++us.toArray))).push (seqObj "list" us.toArray 0) }
 rw [sz]
 generalize ((s.heap.push (seqObj "list" #[] 0)).update s.heap.objs.size (Obj.mapSeq (·++us.toArray))).push (seqObj "list" us.toArray 0)=h5 at at1 old ⊢
 have I5:Inv X pins σ H { s with heap:=h5 }:=I.kept (t':=s.toks) old
 have fD:c6 X pins H (s.heap.objs.size + 1):=I.fpOk (Nat.le_succ _) (I.hok.fresh (Nat.le_succ _))
 refine wpAny_bind (wpAny_holding (wpAny_call_entry_kw slot_list_sort ⟨_,at1,rfl⟩ entry_list_sort ?body (ksk_l1 _ _)))
 case body =>
  show wpAny (model X.prog X.w) X.A.in1.in1 (Builtin.«list.sort» ⟨[.ref (s.heap.objs.size + 1)],[(Str.ofString "key",.ref f)]⟩) _ _ _
  rw [ksk_t1]
  exact lB (A:=X.A.in1.in1) F hr.in1.in1 (fun pins' H' s' J=>J.env0.in1.in1) hb (Nat.le_trans I.sz (Nat.le_succ _)) fD I5 at1 rx h64 h fun s' q=>⟨_,rfl,wpAny_pure ⟨_,rfl,q⟩⟩
end
noncomputable def Ag (X:Cx)(sp:Sp)(ta:TE):TE:=fun σ H Q=>cf ta tNil σ H fun vs H1=>∃ l xs,vs=[.ref l]∧aO X.K H1 l xs∧xs.length < 64∧mh sp xs H1 (kb X xs Q)
section
variable {X:Cx}{k:Nat}{f:Addr}{fd:FuncData}{ps:List Str}{sp:Sp}{e:Expr}{ta:TE}{x:Str}{p p2 kpos pos:Pos}
theorem wr (F:FnOk X.prog X.w X.K X.mg X.base (aU X.prog X.w) k f fd ps sp)(hr:Room (k + 2) X.A)(hb:ax X.K fd ps [])(hg:Gl X "sorted")(hm:X.mg "sorted"=none)(hgf:Gl X x)(hmf:X.mg x=some (.ref f))(ha:PE X e ta)(hs:fL e=false:=by rfl)(hd:(x == ("__debug__":Str))=false:=by decide):
 PE X (.Call (.Name "sorted" p) [e] [⟨some "key",.Name x p2,kpos⟩] pos) (Ag X sp ta):=by
 intro pins s σ H Q I h
 refine wpAny_Call_Name_kw (du I hg hm (by rfl) ?_ (by decide) (by decide))
 refine callWith_builtin_kwB (by rw [bn hs]; rfl) rfl (evalArgs_kw2 rfl ?_ (bn hs))
 refine bF (ag ha ad hs pos pins s σ H _ I h) fun us s1 ⟨vs,H1,I1,r1,⟨l,xs,hv,hl,h64,ht⟩⟩=>?_
 subst hv
 cases r1 with
 | cons ra rb =>
   cases rb
   cases ra
   refine kwAll_cons (eV I1 hgf hmf (kwAll_nil ?_) hd)
   exact qP F hr hb I1 hl h64 ht
end
end Srt
namespace K07
open PySem L2 PySem.W Nm Srt
theorem AE {n:Nat}{p t b:Int}(hp:FP p)(h:B n t)(hb:b≠0)(hn:7≤n):B n (gJ p t b):=by
 unfold gJ
 by_cases z:p=0
 ·rw [if_pos z]
  exact h.le (si hb)
 ·rw [if_neg z]
  obtain ⟨_,p2,p97⟩:=hp.two z
  have h0:=Int.emod_nonneg t (b:=p) (by omega)
  have h1:=Int.emod_lt_of_pos t (b:=p) (by omega)
  have:B 7 (t % p):=by
   show (t % p).natAbs < 2 ^ 7
   omega
  exact this.mono hn
theorem zJ {n:Nat}{p t b:Int}(h:B n b)(hb:b≠0)(hn:1≤n):B n (gI p t b):=by
 unfold gI
 by_cases z:p=0
 ·rw [if_pos z]
  exact h.le (rO hb)
 ·rw [if_neg z]
  exact (show B 1 (1:Int) from (by show (1:Int).natAbs < 2 ^ 1; decide)).mono hn
noncomputable abbrev Tm:=List Int × Int × Int
noncomputable def dI (p:Int)(a b:Int × Int):Int × Int:=(gJ p (gP a.1 a.2 b.1 b.2) (a.2 * b.2),gI p (gP a.1 a.2 b.1 b.2) (a.2 * b.2))
noncomputable def Gn (p:Int)(n:Nat)(a:Int × Int):Prop:=Num p a.1 a.2∧B n a.1∧B n a.2
theorem Gn.ne {p:Int}{n:Nat}{a:Int × Int}(h:Gn p n a):a.2≠0:=by have:=h.1.pos; omega
theorem mt {p:Int}{n m:Nat}{a b:Int × Int}(hp:FP p)(ha:Gn p n a)(hb:Gn p m b)(h7:7≤n + m + 1):Gn p (n + m + 1) (dI p a b):=by
 have nz:a.2 * b.2≠0:=Int.mul_ne_zero ha.ne hb.ne
 refine ⟨Num.set hp.nn nz,AE hp ?_ nz h7,(zJ (n:=n + m) (ha.2.2.mul hb.2.2) nz (by omega)).mono (by omega)⟩
 have h1:B (n + m) (a.1 * b.2):=ha.2.1.mul hb.2.2
 have h2:B (n + m) (b.1 * a.2):=(hb.2.1.mul ha.2.2).mono (by omega)
 exact h1.add h2
theorem ua {p:Int}{n:Nat}{b:Int × Int}(hp:FP p)(hb:Gn p n b):dI p (0,1) b=b:=by
 obtain ⟨h1,h2⟩:=hb.1.self hp.nn
 unfold dI gP
 have e1:(0:Int) * b.2 + b.1 * 1=b.1:=by omega
 have e2:(1:Int) * b.2=b.2:=by omega
 rw [e1,e2,h1,h2]
noncomputable def iN (p:Int)(d:List Tm)(t:Tm):List Tm:=if d.any (fun e=>decide (e.1=t.1))=true then d.map (fun e=>if e.1=t.1 then (e.1,dI p e.2 t.2) else e) else d++[t]
noncomputable def aV (p:Int)(ts:List Tm):List Tm:=ts.foldl (iN p) []
noncomputable def oh (p:Int)(n:Nat)(d:List Tm):Prop:=∀ e∈d,Gn p n e.2
theorem ut {p:Int}{n m:Nat}{d:List Tm}{t:Tm}(hp:FP p)(hd:oh p n d)(ht:Gn p m t.2)(h7:7≤n + m + 1):oh p (n + m + 1) (iN p d t):=by
 have up:∀ e∈d,Gn p (n + m + 1) e.2:=fun e he=>⟨(hd e he).1,(hd e he).2.1.mono (by omega),(hd e he).2.2.mono (by omega)⟩
 unfold iN
 split
 ·intro e he
  obtain ⟨e0,h0,rfl⟩:=List.mem_map.mp he
  by_cases q:e0.1=t.1
  ·rw [if_pos q]; exact mt hp (hd e0 h0) ht h7
  ·rw [if_neg q]; exact up e0 h0
 ·intro e he
  rcases List.mem_append.mp he with he | he
  ·exact up e he
  ·have:e=t:=by simpa using he
   subst this
   exact ⟨ht.1,ht.2.1.mono (by omega),ht.2.2.mono (by omega)⟩
theorem uJ {p:Int}{d:List Tm}{t:Tm}(hd:(d.map (·.1)).Nodup):((iN p d t).map (·.1)).Nodup:=by
 unfold iN
 split
 ·rw [List.map_map]
  have:((fun e:Tm=>e.1) ∘ fun e=>if e.1=t.1 then (e.1,dI p e.2 t.2) else e)=fun e=>e.1:=by
   funext e
   show (if e.1=t.1 then (e.1,dI p e.2 t.2) else e).1=e.1
   split <;> rfl
  rw [this]
  exact hd
 ·rename_i q
  rw [List.map_append]
  refine List.nodup_append.mpr ⟨hd,by simp,fun a ha b hb z=>?_⟩
  have:b=t.1:=by simpa using hb
  subst this
  subst z
  obtain ⟨e,he,e1⟩:=List.mem_map.mp ha
  exact q (List.any_eq_true.mpr ⟨e,he,by simpa using e1⟩)
theorem wB {p:Int}{d:List Tm}{t:Tm}:(iN p d t).length≤d.length + 1:=by
 unfold iN
 split <;> simp
noncomputable def keyOf (t:Tm):Ky:=(t.1.length,t.1)
noncomputable def cC (d:List Tm):List Tm:=(cA ((d.filter fun e=>e.2.1 != 0).map fun e=>(keyOf e,e))).map (·.2)
theorem eF (p:Int)(ts:List Tm)(t:Tm):aV p (ts++[t])=iN p (aV p ts) t:=by
 unfold aV
 rw [List.foldl_append]
 rfl
theorem gh {p:Int}{m:Nat}(hp:FP p):∀ (n:Nat)(ts:List Tm),ts.length=n->(∀ t∈ts,Gn p m t.2)->oh p ((m + 1) * n + 7) (aV p ts)∧((aV p ts).map (·.1)).Nodup∧(aV p ts).length≤n
 | 0,ts,hn,_=>by
   have:ts=[]:=List.length_eq_zero_iff.mp hn
   subst this
   refine And.intro (fun e he=>?_) (And.intro List.nodup_nil (Nat.le_refl 0))
   exact absurd (show e∈([]:List Tm) from he) (by simp)
 | n + 1,ts,hn,h=>by
   obtain ⟨ini,t,rfl⟩:∃ ini t,ts=ini++[t]:=by
    have hne:ts≠[]:=by intro z; rw [z] at hn; cases hn
    exact ⟨ts.dropLast,ts.getLast hne,(List.dropLast_concat_getLast hne).symm⟩
   have hl:ini.length=n:=by simpa using hn
   obtain ⟨g1,g2,g3⟩:=gh hp n ini hl fun t ht=>h t (List.mem_append_left _ ht)
   rw [eF]
   have gt:=h t (List.mem_append_right _ (by simp))
   have e2:(m + 1) * (n + 1)=(m + 1) * n + (m + 1):=Nat.mul_succ _ _
   refine ⟨fun e he=>?_,uJ g2,Nat.le_trans wB (by omega)⟩
   have:=ut hp g1 gt (by omega) e he
   exact ⟨this.1,this.2.1.mono (by omega),this.2.2.mono (by omega)⟩
noncomputable abbrev je (ks:List Int):List Key:=ks.map Sum.inl
theorem im (ks:List Int):(je ks).map kV=ks.map V.int:=by unfold je; rw [List.map_map]; rfl
theorem nK {a b:List Int}(h:je a=je b):a=b:=by
 have e:(je a).map kV=(je b).map kV:=by rw [h]
 rw [im,im] at e
 have inj:∀ {x y:List Int},x.map V.int=y.map V.int->x=y:=by
  intro x
  induction x with
  | nil=>intro y h; cases y with
    | nil=>rfl
    | cons c y=>simp at h
  | cons b x ih=>intro y h; cases y with
    | nil=>simp at h
    | cons c y =>
      rw [List.map_cons,List.map_cons] at h
      injection h with h1 h2
      injection h1 with h1
      rw [h1,ih h2]
 exact inj e
noncomputable def AK (H:Hp)(y:V)(t:Tm):Prop:=∃ a pr nu,y = .ref a∧H a=some (.tup [.ref pr,.ref nu])∧H pr=some (.tup (t.1.map V.int))∧H nu=some (cj t.2.1 t.2.2)
noncomputable abbrev a8 (H:Hp):List V->List Tm->Prop:=Paired (AK H)
noncomputable abbrev DR (H:Hp):List (List Key × V)->List Tm->Prop:=Paired fun kv e=>kv.1=je e.1∧∃ a,kv.2 = .ref a∧H a=some (cj e.2.1 e.2.2)
noncomputable def aA (H H':Hp):Prop:=∀ b xs,H b=some (.tup xs)->H' b=some (.tup xs)
theorem aA.of {H H':Hp}(s:au H H'):aA H H':=fun b xs e=>s b _ e
theorem aA.trans {H H1 H2:Hp}(a:aA H H1)(b:aA H1 H2):aA H H2:=fun c xs e=>b c xs (a c xs e)
theorem aA.upd {H:Hp}{d:Addr}{o:HO}(h:∀ xs,H d≠some (.tup xs)):aA H (upd H d o):=fun b xs e=>by
 have:b≠d:=fun z=>h xs (z ▸ e)
 rw [al this]; exact e
theorem AK.keep {H H':Hp}{y:V}{t:Tm}(h:AK H y t)(k:aA H H'):AK H' y t:=let ⟨a,pr,nu,e,h1,h2,h3⟩:=h; ⟨a,pr,nu,e,k _ _ h1,k _ _ h2,k _ _ h3⟩
theorem a8.keep {H H':Hp}{ys:List V}{ts:List Tm}(h:a8 H ys ts)(k:aA H H'):a8 H' ys ts:=Paired.mapP h fun _ _ z=>z.keep k
theorem DR.keep {H H':Hp}{kvs:List (List Key × V)}{d:List Tm}(h:DR H kvs d)(k:aA H H'):DR H' kvs d:=Paired.mapP h fun _ _ z=>⟨z.1,let ⟨a,e,h⟩:=z.2; ⟨a,e,k _ _ h⟩⟩
theorem tw {H:Hp}(k:List Int):∀ {kvs:List (List Key × V)}{d:List Tm},DR H kvs d->d.any (fun e=>decide (e.1=k))=false->il kvs (je k)=none
 | _,_,.nil,_=>rfl
 | _,_,.cons (a:=kv) (b:=e) h t,q=>by
   rw [List.any_cons,Bool.or_eq_false_iff] at q
   have ne:¬ kv.1=je k:=fun z=>by
    have:e.1=k:=nK (h.1.symm.trans z)
    simp [this] at q
   rw [fF ne]
   exact tw k t q.2
theorem jA {H:Hp}(k:List Int):∀ {kvs:List (List Key × V)}{d:List Tm},DR H kvs d->d.any (fun e=>decide (e.1=k))=true->∃ e∈d,e.1=k∧∃ a,il kvs (je k)=some (.ref a)∧H a=some (cj e.2.1 e.2.2)
 | _,_,.nil,q=>by simp at q
 | _,_,.cons (a:=kv) (b:=e) h t,q=>by
   by_cases z:e.1=k
   ·obtain ⟨a,e1,ha⟩:=h.2
    refine ⟨e,List.mem_cons_self,z,a,?_,ha⟩
    rw [hZ (by rw [h.1,z]),e1]
   ·have ne:¬ kv.1=je k:=fun w=>z (nK (h.1.symm.trans w))
    rw [List.any_cons,decide_eq_false z,Bool.false_or] at q
    obtain ⟨e',m,z',a,h1,h2⟩:=jA k t q
    exact ⟨e',List.mem_cons_of_mem _ m,z',a,by rw [fF ne]; exact h1,h2⟩
theorem Ao {H:Hp}(k:List Int){kvs:List (List Key × V)}{d:List Tm}(h:DR H kvs d):(kvs.any fun kv=>decide (kv.1=je k))=d.any fun e=>decide (e.1=k):=by
 rw [jY]
 cases q:d.any fun e=>decide (e.1=k) with
 | false=>rw [tw k h q]; rfl
 | true =>
   obtain ⟨_,_,_,a,e,_⟩:=jA k h q
   rw [e]; rfl
theorem vy {H:Hp}{p:Int}{t:Tm}{a:Addr}{kvs:List (List Key × V)}{d:List Tm}(h:DR H kvs d)(nd:(d.map (·.1)).Nodup)
 (hno:d.any (fun e=>decide (e.1=t.1))=false->H a=some (cj t.2.1 t.2.2))(hyes:∀ e∈d,e.1=t.1->H a=some (cj (dI p e.2 t.2).1 (dI p e.2 t.2).2)):DR H (eL kvs (je t.1) (.ref a)) (iN p d t):=by
 unfold eL iN
 rw [Ao t.1 h]
 by_cases q:d.any (fun e=>decide (e.1=t.1))=true
 ·rw [if_pos q,if_pos q]
  have go:∀ {kvs:List (List Key × V)}{d:List Tm},DR H kvs d->(∀ e∈d,e.1=t.1->H a=some (cj (dI p e.2 t.2).1 (dI p e.2 t.2).2)) →
   DR H (kvs.map fun kv=>if kv.1=je t.1 then (kv.1,V.ref a) else kv) (d.map fun e=>if e.1=t.1 then (e.1,dI p e.2 t.2) else e):=by
   intro kvs d h
   induction h with
   | nil=>intro _; exact .nil
   | @cons kv e ks es h0 ht ih =>
     intro hy
     rw [List.map_cons,List.map_cons]
     refine .cons ?_ (ih fun e' m=>hy e' (List.mem_cons_of_mem _ m))
     by_cases z:e.1=t.1
     ·rw [if_pos z,if_pos (by rw [h0.1,z])]
      exact ⟨h0.1,a,rfl,hy e List.mem_cons_self z⟩
     ·rw [if_neg z,if_neg (fun w=>z (nK (h0.1.symm.trans w)))]
      exact h0
  exact go h hyes
 ·have q':d.any (fun e=>decide (e.1=t.1))=false:=Bool.eq_false_iff.mpr q
  rw [if_neg q,if_neg q]
  exact Paired.snoc h ⟨rfl,a,rfl,hno q'⟩
noncomputable abbrev u8:Stmt:=aY 28
noncomputable def m9 (C:Addr):Sp:=fun vs H Q _=>∃ (s dx l:Addr)(p:Int)(ys:List V)(ts:List Tm)(m:Nat),vs=[.ref s,.ref l]∧H s=some (.ins C dx (gu p))∧FP p∧H l=some (.lst ys)∧a8 H ys ts∧ts.length < 64 ∧
 (∀ t∈ts,Gn p m t.2)∧(m + 1) * ts.length + 7≤4000∧m≤4000∧∀ H' D zs,au H H'->H' D=some (.lst zs)->a8 H' zs (cC (aV p ts))->Q (.ref D) H'
theorem iK:FnScope ["field","terms","totals","product","number","kept"] ["field","terms"] (aj u8):=⟨rfl,rfl,rfl,by decide +kernel,rfl,by decide +kernel,by decide +kernel⟩
theorem mn {α β:Type}{R:α->β->Prop}{k:Ky}{x:α}{y:β}(h:R x y):∀ {l:List (Ky × α)}{m:List (Ky × β)},Paired (fun a b=>a.1=b.1∧R a.2 b.2) l m->Paired (fun a b=>a.1=b.1∧R a.2 b.2) (lu k x l) (lu k y m)
 | _,_,.nil=>.cons ⟨rfl,h⟩ .nil
 | _,_,.cons (a:=(j,u)) (b:=(j',v)) (l₁:=r) (l₂:=r') h0 t=>by
   obtain ⟨e,h1⟩:=h0
   have e:j=j':=e
   subst e
   show Paired _ (if lj k j=true then (k,x):: (j,u):: r else (j,u):: lu k x r) (if lj k j=true then (k,y):: (j,v):: r' else (j,v):: lu k y r')
   by_cases z:lj k j=true
   ·rw [if_pos z,if_pos z]; exact .cons ⟨rfl,h⟩ (.cons ⟨rfl,h1⟩ t)
   ·rw [if_neg z,if_neg z]; exact .cons ⟨rfl,h1⟩ (mn h t)
theorem gF {α β:Type}{R:α->β->Prop}:∀ {l:List (Ky × α)}{m:List (Ky × β)},Paired (fun a b=>a.1=b.1∧R a.2 b.2) l m->Paired (fun a b=>a.1=b.1∧R a.2 b.2) (cA l) (cA m)
 | _,_,.nil=>.nil
 | _,_,.cons (a:=(j,u)) (b:=(j',v)) (l₁:=r) (l₂:=r') h0 t=>by
   obtain ⟨e,h1⟩:=h0
   have e:j=j':=e
   subst e
   exact mn h1 (gF t)
theorem jC {α β:Type}{R:α->β->Prop}:∀ {l:List (Ky × α)}{m:List (Ky × β)},Paired (fun a b=>a.1=b.1∧R a.2 b.2) l m->Paired R (l.map (·.2)) (m.map (·.2))
 | _,_,.nil=>.nil
 | _,_,.cons h t=>.cons h.2 (jC t)
theorem jZ {R:V->Tm->Prop}:∀ {xs:List V}{es:List Tm},Paired R xs es->Paired (fun a b=>a.1=b.1∧R a.2 b.2) ((es.map keyOf).zip xs) (es.map fun e=>(keyOf e,e))
 | _,_,.nil=>.nil
 | _,_,.cons h t=>.cons ⟨rfl,h⟩ (jZ t)
theorem md:∀ {xs:List V}{es:List Tm}{H:Hp}{R:List V->Hp->Prop},a8 H xs es →
 (∀ ks H2,au H H2->Paired (fun x e=>∃ a b,x = .ref a∧H2 a=some (.tup [.int e.1.length,.ref b])∧H2 b=some (.tup (e.1.map V.int))) ks es->R ks H2)->mh spPlaceOf xs H R
 | _,_,H,R,.nil,h=>h [] H (au.refl _) .nil
 | _,_,H,R,.cons (b:=e) h0 t,h=>by
   obtain ⟨a,pr,nu,rfl,ha,hpr,hnu⟩:=h0
   refine ⟨a,pr,.ref nu,_,rfl,ha,hpr,fun tt htt=>?_⟩
   rw [List.length_map]
   have sU:au H (upd H tt (.tup [.int e.1.length,.ref pr])):=ak htt
   refine md (a8.keep t (aA.of sU)) fun ks H2 s2 hk=>h _ H2 (fun b u z=>s2 _ _ (sU _ _ z)) (.cons ⟨tt,pr,rfl,s2 _ _ ac,s2 _ _ (sU _ _ hpr)⟩ hk)
theorem pI {K:Frag}{H:Hp}:∀ {ks:List V}{es:List Tm},Paired (fun x e=>∃ a b,x = .ref a∧H a=some (.tup [.int e.1.length,.ref b])∧H b=some (.tup (e.1.map V.int))) ks es->cY K H ks (es.map keyOf)
 | _,_,.nil=>True.intro
 | _,_,.cons h t=>by
   obtain ⟨a,b,rfl,h1,h2⟩:=h
   exact ⟨⟨a,b,[],rfl,bc.of h1,bc.of h2⟩,pI t⟩
theorem qY {d:List Tm}(h:(d.map (·.1)).Nodup)(f:Tm->Bool):((d.filter f).map keyOf).Nodup:=by
 have h1:((d.filter f).map (·.1)).Nodup:=h.sublist (List.filter_sublist.map _)
 have e:(d.filter f).map keyOf=((d.filter f).map (·.1)).map fun k=>((k.length:Int),k):=by rw [List.map_map]; rfl
 rw [e]
 unfold List.Nodup at h1 ⊢
 rw [List.pairwise_map]
 exact h1.imp fun h z=>h (Prod.mk.inj z).2
theorem gD {d:List Tm}(h:(d.map (·.1)).Nodup):∀ {e e':Tm},e∈d->e'∈d->e.1=e'.1->e=e':=by
 induction d with
 | nil=>intro e e' h1; exact nomatch h1
 | cons a d ih =>
   rw [List.map_cons,List.nodup_cons] at h
   intro e e' h1 h2 z
   rcases List.mem_cons.mp h1 with h3 | h3
   ·rcases List.mem_cons.mp h2 with h4 | h4
    ·rw [h3,h4]
    ·exact absurd (by rw [← h3,z]; exact List.mem_map_of_mem (f:=(·.1)) h4) h.1
   ·rcases List.mem_cons.mp h2 with h4 | h4
    ·exact absurd (by rw [← h4,← z]; exact List.mem_map_of_mem (f:=(·.1)) h3) h.1
    ·exact ih h.2 h3 h4 z
section
variable {P:Program}{w:World}{K:PySem.W.Frag}{mg:Str->Option Value}{base:Heap}
theorem yL {f fp fo C:Addr}{fd fdp fdo:FuncData}(F:Fun K "gathered" "gathered" u8 f fd)(c:FieldK K mg C)(m_sorted:mg "sorted"=none)
 (FPl:FnOk P w K mg base (aU P w) 4 fp fdp ["self","one","other"] (wg C gP))(bPl:L2.ax K fdp ["self","one","other"] [])(mPl:L2.Meth K C "plus" fp)
 (FPo:FnOk P w K mg base (aU P w) 1 fo fdo ["term"] spPlaceOf)(bPo:L2.ax K fdo ["term"] [])(mPo:mg "place_of_term"=some (.ref fo)):FnOk P w K mg base (aU P w) 5 f fd ["field","terms"] (m9 C):=by
 refine F.okN iK (fun vs H Q E h=>?_) (fun cdv A outer s H vs Q E hr h=>?_)
 ·obtain ⟨s,dx,l,p,ys,ts,m,rfl,_⟩:=h
  rfl
 ·obtain ⟨s0,dx,l,p,ys,ts,m,rfl,hs,hp,hl,hts,h64,hG,hm,hm2,q⟩:=h
  have hr4:Room 4 _:=hr.mono (by decide)
  have hrS:Room 3 _:=hr.mono (by decide)
  have hu:=(hr.units:_ + 64 < cLine)
  replace hu:=Nat.lt_of_le_of_lt (Nat.add_le_add_left (by decide:1≤64) _) hu
  refine ⟨_,(ai (@aK _ _ 2 _ _ _ _ iK.nd rfl (Or.inl rfl) oH rfl (Or.inl rfl))
   (ai (fV PassesOwn.never rfl (cK (pv 1)) (cV rfl (aL (aE (i:=3) iK.nd rfl (Or.inl rfl)) (aL (aE (i:=4) iK.nd rfl (Or.inl rfl)) cw)))
   (ai (a7 (vZ (zS hu (pv 3) (pv 2))) (am (@aK _ _ 4 _ _ _ _ iK.nd rfl (Or.inl rfl) (dk (pv 0) c.cl mPl FPl hr4 bPl .nil ae (@ag _ _ _ _ _ (m6 hu (pv 2) (pv 3) (fun _ _=>rfl)) (@ag _ _ _ _ _ (pv 4) ad rfl) rfl)) rfl (Or.inl rfl))) aC)
   (am (sj hu (pv 2) (pv 3) (pv 4) (by rfl)))))
   (ai (jq (i:=5) (g:=lz K 2 (cP (bD 0) (cP (bD 1) gNil))) (N:=["product","number"]) (nl:=2) (js:=[]) (osc:=aj u8) ⟨rfl,rfl,by decide +kernel,by decide +kernel,by decide +kernel,rfl,.nil,by decide +kernel⟩ rfl iK.nd rfl (Or.inl rfl)
    (vo (pv 2))
    (fun C fp s H=>(cV (X:=d6 _ ["product","number"] _ C fp s H) rfl (aL (aE (X:=d6 _ ["product","number"] _ C fp s H) (i:=0) (by show (["product","number"]:List Str).Nodup; decide +kernel) rfl (Or.inl rfl) (Or.inr rfl)) (aL (aE (X:=d6 _ ["product","number"] _ C fp s H) (i:=1) (by show (["product","number"]:List Str).Nodup; decide +kernel) rfl (Or.inl rfl) (Or.inr rfl)) cw))))
    (fun C fp s H=>(dY (@aF _ _ _ _ _ _ _ _ iU (@aW _ _ _ _ _ _ _ (show yh _ (uS K) from cb) (pv 1) ah (fun _ _=>rfl)) ah (aG _))))
    (fun C fp s H=>(@bH _ _ _ _ _ (@ag _ _ _ _ _ (pv 0) (@ag _ _ _ _ _ (pv 1) ad rfl) rfl))) (by rfl))
   (am (av (wr FPo hrS bPo (by rfl) m_sorted (by rfl) mPo (pv 5))))))),?_⟩
  have hlen:=hts.length
  have gg:∀ i,i≤ts.length->oh p 4000 (aV p (ts.take i))∧((aV p (ts.take i)).map (·.1)).Nodup∧(aV p (ts.take i)).length≤i:=fun i hi=>by
   obtain ⟨g1,g2,g3⟩:=gh (m:=m) hp i (ts.take i) (by simp; omega) fun t ht=>hG t (List.mem_of_mem_take ht)
   refine ⟨fun e he=>?_,g2,g3⟩
   have b:=g1 e he
   have le:(m + 1) * i + 7≤4000:=Nat.le_trans (Nat.add_le_add_right (Nat.mul_le_mul_left _ hi) _) hm
   exact ⟨b.1,b.2.1.mono le,b.2.2.mono le⟩
  refine fun dd hdd=>?_
  have s1:au H (upd H dd (.dT [])):=ak hdd
  refine ⟨_,rfl,l,rfl,⟨ys,aO.of (s1 _ _ hl)⟩,?_⟩
  refine ⟨fun i m σ' H'=>m=ts.length - i∧i≤ts.length∧au H H'∧(∃ kvs,H' dd=some (.dT kvs)∧DR H' kvs (aV p (ts.take i)))∧∃ o3 o4,σ'=[some (.ref s0),some (.ref l),some (.ref dd),o3,o4,none],
   ⟨ts.length,by simp,Nat.zero_le _,s1,⟨[],ac,.nil⟩,none,none,rfl⟩,?_⟩
  rintro i m' σ' H' ⟨rfl,hi,sH,⟨kvs,hd,dr⟩,o3,o4,rfl⟩
  have hl':=sH _ _ hl
  have hs':=sH _ _ hs
  obtain ⟨gd,gnd,gl⟩:=gg i hi
  by_cases hlt:i < ts.length
  ·have hly:i < ys.length:=by omega
   refine .inr ⟨⟨ys,ys[i],aO.of hl',by simp [hly]⟩,fun σ' H'=>i + 1≤ts.length∧au H H'∧(∃ kvs,H' dd=some (.dT kvs)∧DR H' kvs (aV p (ts.take (i + 1))))∧∃ o3 o4,σ'=[some (.ref s0),some (.ref l),some (.ref dd),o3,o4,none],?_,fun y H2 hy=>?_⟩
   ·rintro σ' H' ⟨h1,h2,h3,h4⟩
    exact ⟨ts.length - (i + 1),by omega,rfl,h1,h2,h3,h4⟩
   ·obtain ⟨rfl,hy⟩:=hy
    obtain ⟨t,et,tr⟩:=bJ hts (hy ys (aO.of hl'))
    obtain ⟨a,pr,nu,rfl,ha,hpr,hnu⟩:=tr.keep (aA.of sH)
    have gt:=hG t (List.mem_of_getElem? et)
    have esn:ts.take (i + 1)=ts.take i++[t]:=by rw [List.take_add_one,et]; rfl
    have hpr':∀ H3:Hp,aA H2 H3->H3 pr=some (.tup ((je t.1).map kV)):=fun H3 k=>by rw [im]; exact k _ _ hpr
    have fin:∀ (H3:Hp)(an:Addr),au H H3->aA H2 H3->H3 dd=some (.dT kvs)->((aV p (ts.take i)).any (fun e=>decide (e.1=t.1))=false->H3 an=some (cj t.2.1 t.2.2)) →
     (∀ e∈aV p (ts.take i),e.1=t.1->H3 an=some (cj (dI p e.2 t.2).1 (dI p e.2 t.2).2)) →
     au H (upd H3 dd (.dT (eL kvs (je t.1) (.ref an))))∧∃ kvs',(upd H3 dd (.dT (eL kvs (je t.1) (.ref an)))) dd=some (.dT kvs')∧DR (upd H3 dd (.dT (eL kvs (je t.1) (.ref an)))) kvs' (aV p (ts.take (i + 1))):=by
     intro H3 an s3 k3 h3 hno hyes
     refine ⟨fun b u e=>by rw [al (ap e hdd)]; exact s3 b u e,_,ac,?_⟩
     rw [esn,eF]
     exact (vy (dr.keep k3) gnd hno hyes).keep (aA.upd fun xs z=>by rw [h3] at z; cases z)
    have klen:kvs.length < sizeLine:=by
     rw [dr.length]
     exact Nat.lt_of_le_of_lt gl (Nat.lt_trans (Nat.lt_of_le_of_lt hi h64) (by decide))
    refine ⟨a,_,rfl,bc.of ha,rfl,_,_,rfl,_,_,rfl,rfl,?_⟩
    refine ⟨_,rfl,_,rfl,dd,_,rfl,ir.t hd (hpr' _ fun _ _ e=>e),_,rfl,?_⟩
    cases hq:(aV p (ts.take i)).any (fun e=>decide (e.1=t.1)) with
    | false =>
      rw [tw t.1 dr hq]
      refine bx ?_
      refine ⟨_,rfl,_,rfl,_,rfl,dd,_,rfl,pF.t hd (hpr' _ fun _ _ e=>e) klen,?_⟩
      obtain ⟨f1,f2⟩:=fin H2 nu sH (fun _ _ e=>e) hd (fun _=>hnu) fun e he z=>by
       have:(aV p (ts.take i)).any (fun e=>decide (e.1=t.1))=true:=List.any_eq_true.mpr ⟨e,he,by simpa using z⟩
       rw [hq] at this; cases this
      exact ⟨hlt,f1,f2,_,_,rfl⟩
    | true =>
      obtain ⟨e,he,ek,a0,hv,ha0⟩:=jA t.1 dr hq
      rw [hv]
      refine br ?_
      have ge:=gd e he
      refine ⟨_,rfl,s0,dx,_,rfl,hs',rfl,_,rfl,_,rfl,dd,_,rfl,(by rw [← hv]; exact ir.t hd (hpr' _ fun _ _ e=>e)),_,rfl,s0,dx,a0,nu,p,e.2.1,e.2.2,t.2.1,t.2.2,rfl,hs',hp,ha0,hnu,
       ge.2.1,ge.2.2,gt.2.1.mono hm2,gt.2.2.mono hm2,ge.ne,gt.ne,fun a1 ha1=>?_⟩
      have sU:au H2 (upd H2 a1 (cj (dI p e.2 t.2).1 (dI p e.2 t.2).2)):=ak ha1
      refine ⟨_,rfl,_,rfl,_,rfl,dd,_,rfl,pF.t (sU _ _ hd) (hpr' _ (aA.of sU)) klen,?_⟩
      obtain ⟨f1,f2⟩:=fin _ a1 (fun b u z=>sU _ _ (sH _ _ z)) (aA.of sU) (sU _ _ hd) (fun z=>by rw [hq] at z; cases z) fun e' he' z=>by
       have:e'=e:=gD gnd he' he (z.trans ek.symm)
       subst this
       exact ac
      exact ⟨hlt,f1,f2,_,_,rfl⟩
  ·have ei:i=ts.length:=by omega
   subst ei
   refine .inl ⟨⟨ys,aO.of hl',by omega⟩,?_⟩
   rw [List.take_length] at dr gd gnd gl
   refine ⟨_,rfl,dd,kvs,rfl,.inr ⟨hd,fun o=>?_⟩⟩
   have sF:au H (upd H' dd (n8 o kvs)):=fun b u e=>by rw [al (ap e hdd)]; exact sH b u e
   have drF:DR (upd H' dd (n8 o kvs)) kvs (aV p ts):=dr.keep (aA.upd fun xs z=>by rw [hd] at z; cases z)
   have kl:kvs.length=(aV p ts).length:=dr.length
   refine ⟨fun i m xs σ' H2=>m=(aV p ts).length - i∧i≤(aV p ts).length∧au H H2∧H2 dd=some (n8 o kvs)∧DR H2 kvs (aV p ts)∧a8 H2 xs (((aV p ts).take i).filter fun e=>e.2.1 != 0)∧∃ o1 o2,σ'=[o1,o2],
    ⟨(aV p ts).length,by simp,Nat.zero_le _,sF,ac,drF,.nil,none,none,rfl⟩,?_⟩
   rintro i m' xs σ' H2 ⟨rfl,hi2,s2,hd2,dr2,hx2,o1,o2,rfl⟩
   have xl:xs.length≤(aV p ts).length:=by
    rw [hx2.length]
    exact Nat.le_trans (List.length_filter_le _ _) (by simp; omega)
   refine ⟨Nat.lt_of_le_of_lt (Nat.le_trans xl gl) (Nat.lt_trans h64 (by decide)),?_⟩
   by_cases hlt2:i < (aV p ts).length
   ·refine .inr ⟨⟨by omega,hd2⟩,fun x H3 hx=>?_⟩
    obtain ⟨pp,b,k,v,hk,hpp,hb,rfl,rfl⟩:=hx
    obtain ⟨e,ee,ek,a,ev,ha⟩:=bJ dr2 hk
    have ek:k=je e.1:=ek
    have ev:v = .ref a:=ev
    subst ek
    subst ev
    have sP:au H2 (upd H2 pp (.tup [.ref b,.ref a])):=ak hpp
    have esn:(aV p ts).take (i + 1)=(aV p ts).take i++[e]:=by rw [List.take_add_one,ee]; rfl
    rw [im] at hb
    refine ⟨pp,_,rfl,bc.of ac,rfl,_,_,rfl,_,_,rfl,rfl,?_⟩
    refine ⟨_,rfl,a,_,0,_,rfl,rfl,bc.of (sP _ _ ha),rfl,rfl,_,rfl,?_⟩
    have dP:upd H2 pp (.tup [.ref b,.ref a]) dd=some (n8 o kvs):=sP _ _ hd2
    cases hz:(e.2.1 != 0) with
    | true =>
      have z:(!decide (V.int e.2.1=V.int 0))=true:=by
       have:e.2.1≠0:=by simpa using hz
       simp [this]
      rw [z]
      refine br ⟨_,rfl,_,rfl,(by show 2≤sizeLine; decide),fun t' ht'=>?_⟩
      have sT:au (upd H2 pp (.tup [.ref b,.ref a])) (upd (upd H2 pp (.tup [.ref b,.ref a])) t' (.tup [.ref b,.ref a])):=ak ht'
      have sA:au H2 (upd (upd H2 pp (.tup [.ref b,.ref a])) t' (.tup [.ref b,.ref a])):=fun c u e=>sT _ _ (sP _ _ e)
      refine ⟨(aV p ts).length - (i + 1),by omega,rfl,hlt2,fun c u e=>sA _ _ (s2 _ _ e),sA _ _ hd2,dr2.keep (aA.of sA),?_,_,_,rfl⟩
      rw [esn,List.filter_append]
      have ef:[e].filter (fun e=>e.2.1 != 0)=[e]:=by simp [hz]
      rw [ef]
      exact Paired.snoc (a8.keep hx2 (aA.of sA)) ⟨t',b,a,rfl,ac,sA _ _ hb,sA _ _ ha⟩
    | false =>
      have z:(!decide (V.int e.2.1=V.int 0))=false:=by
       have:e.2.1=0:=by simpa using hz
       simp [this]
      rw [z]
      refine bx ⟨(aV p ts).length - (i + 1),by omega,rfl,hlt2,fun c u e=>sP _ _ (s2 _ _ e),sP _ _ hd2,dr2.keep (aA.of sP),?_,_,_,rfl⟩
      rw [esn,List.filter_append]
      have ef:[e].filter (fun e=>e.2.1 != 0)=[]:=by simp [hz]
      rw [ef,List.append_nil]
      exact a8.keep hx2 (aA.of sP)
   ·have ei2:i=(aV p ts).length:=by omega
    subst ei2
    refine .inl ⟨⟨by omega,hd2⟩,fun D hD=>?_⟩
    rw [List.take_length] at hx2
    have sD:au H2 (upd H2 D (.lst xs)):=ak hD
    refine ⟨_,rfl,D,xs,rfl,aO.of ac,Nat.lt_of_le_of_lt (Nat.le_trans xl gl) h64,?_⟩
    refine md (a8.keep hx2 (aA.of sD)) fun ks H3 s3 hk=>?_
    refine ⟨_,pI hk,qY gnd _,fun D2 hD2=>?_⟩
    have sE:au H3 (upd H3 D2 (.lst ((cA ((((aV p ts).filter fun e=>e.2.1 != 0).map keyOf).zip xs)).map (·.2)))):=ak hD2
    refine q _ D2 _ (fun c u e=>sE _ _ (s3 _ _ (sD _ _ (s2 _ _ e)))) ac ?_
    have hx3:a8 H3 xs ((aV p ts).filter fun e=>e.2.1 != 0):=a8.keep hx2 (aA.of fun c u e=>s3 _ _ (sD _ _ e))
    exact a8.keep (jC (gF (jZ hx3))) (aA.of sE)
end
noncomputable abbrev m4:Stmt:=aY 50
noncomputable def spLGath:Sp:=fun vs H Q _=>∃ (l:Addr)(p:Int)(ys:List V)(ts:List Tm)(m:Nat),vs=[.int p,.ref l]∧FP p∧H l=some (.lst ys)∧a8 H ys ts∧ts.length < 64 ∧
 (∀ t∈ts,Gn p m t.2)∧(m + 1) * ts.length + 7≤4000∧m≤4000∧∀ H' D zs,au H H'->H' D=some (.lst zs)->a8 H' zs (cC (aV p ts))->Q (.ref D) H'
theorem gX:FnScope ["_law_prime_here","_law_terms_here","_law_found","_law_product_here","_law_number_here","_law_rows"] ["_law_prime_here","_law_terms_here"] (aj m4):=⟨rfl,rfl,rfl,by decide +kernel,rfl,by decide +kernel,by decide +kernel⟩
noncomputable def yK (H:Hp)(x:V)(e:Tm):Prop:=∃ t b a,x = .ref t∧H t=some (.tup [.int e.1.length,.ref b,.ref a])∧H b=some (.tup (e.1.map V.int))∧H a=some (cj e.2.1 e.2.2)
theorem yK.keep {H H':Hp}{y:V}{t:Tm}(h:yK H y t)(k:aA H H'):yK H' y t:=let ⟨a,pr,nu,e,h1,h2,h3⟩:=h; ⟨a,pr,nu,e,k _ _ h1,k _ _ h2,k _ _ h3⟩
noncomputable abbrev gy (H:Hp):List V->List Tm->Prop:=Paired (yK H)
theorem gy.keep {H H':Hp}{ys:List V}{ts:List Tm}(h:gy H ys ts)(k:aA H H'):gy H' ys ts:=Paired.mapP h fun _ _ z=>z.keep k
theorem lS {K:Frag}{H:Hp}:∀ {ks:List V}{es:List Tm},gy H ks es->cY K H ks (es.map keyOf)
 | _,_,.nil=>True.intro
 | _,_,.cons h t=>by
   obtain ⟨t0,b,a,rfl,h1,h2,h3⟩:=h
   exact ⟨⟨t0,b,[.ref a],rfl,bc.of h1,bc.of h2⟩,lS t⟩
section
variable {P:Program}{w:World}{K:PySem.W.Frag}{mg:Str->Option Value}{base:Heap}
theorem wJ {f fl:Addr}{fd fdl:FuncData}(F:Fun K "_law_gather" "_law_gather" m4 f fd)(m_sorted:mg "sorted"=none)(m_len:mg "len"=none)
 (FLp:FnOk P w K mg base (aU P w) 3 fl fdl ["_law_prime_here","_law_one","_law_other"] (qw gP))(bLp:L2.ax K fdl ["_law_prime_here","_law_one","_law_other"] [])(mLp:mg "_law_plus"=some (.ref fl))(kLp:keepIn K (.ref fl)=true):
 FnOk P w K mg base (aU P w) 4 f fd ["_law_prime_here","_law_terms_here"] spLGath:=by
 refine F.okN gX (fun vs H Q E h=>?_) (fun cdv A outer s H vs Q E hr h=>?_)
 ·obtain ⟨l,p,ys,ts,m,rfl,_⟩:=h
  rfl
 ·obtain ⟨l,p,ys,ts,m,rfl,hp,hl,hts,h64,hG,hm,hm2,q⟩:=h
  have hr3:Room 3 _:=hr.mono (by decide)
  have hrS:Room (1 + 2) _:=hr.mono (by decide)
  have hr1:Room 1 _:=hr.mono (by decide)
  have hu:=(hr.units:_ + 64 < cLine)
  replace hu:=Nat.lt_of_le_of_lt (Nat.add_le_add_left (by decide:1≤64) _) hu
  refine ⟨_,(ai (@aK _ _ 2 _ _ _ _ gX.nd rfl (Or.inr rfl) oH rfl (Or.inl rfl))
   (ai (fV PassesOwn.never rfl (cK (pv 1)) (cV rfl (aL (aE (i:=3) gX.nd rfl (Or.inl rfl)) (aL (aE (i:=4) gX.nd rfl (Or.inl rfl)) cw)))
   (am (sj hu (pv 2) (pv 3) (aq FLp hr3 (by rfl) mLp kLp bLp .nil ae (@ag _ _ _ _ _ (pv 0) (@ag _ _ _ _ _ (vB hu (pv 2) (pv 3) (@bH _ _ _ _ _ (@ag _ _ _ _ _ ah (@ag _ _ _ _ _ ah ad rfl) rfl)) ⟨rfl,rfl,rfl,rfl⟩) (@ag _ _ _ _ _ (pv 4) ad rfl) rfl) rfl)) (by rfl))))
   (ai (jq (i:=5) (N:=["_law_product_here","_law_found"]) (nl:=1) (js:=[2]) (osc:=aj m4) ⟨rfl,rfl,by decide +kernel,by decide +kernel,by decide +kernel,rfl,(.cons ⟨rfl,by decide +kernel⟩ .nil),by decide +kernel⟩ rfl gX.nd rfl (Or.inl rfl)
    (xy (pv 2))
    (fun C fp s H=>aE (i:=0) (by show (["_law_product_here","_law_found"]:List Str).Nodup; decide +kernel) rfl (Or.inl rfl) (Or.inr rfl))
    (fun C fp s H=>(dY (@aF _ _ _ _ _ _ _ _ (show eZ _ _ (xR K true) from iu hr1) (m6 hu (pv 1) (pv 0) (fun _ _=>rfl)) (@bH _ _ _ _ _ (@ag _ _ _ _ _ ah (@ag _ _ _ _ _ ah ad rfl) rfl)) (aG _))))
    (fun C fp s H=>(@bH _ _ _ _ _ (@ag _ _ _ _ _ (ar (show cR _ _ (fun xs H Q=>∃ p ys,xs=[.ref p]∧(aO K H p ys∨bc K H p ys)∧Q (.int ys.length) H) from aQ) (by rfl) m_len PySem.boot_len (@ag _ _ _ _ _ (pv 0) ad rfl)) (@ag _ _ _ _ _ (pv 0) (@ag _ _ _ _ _ (m6 hu (pv 1) (pv 0) (fun _ _=>rfl)) ad rfl) rfl) rfl))) (by rfl))
   (am (av (cg (g:=lz K 3 (cP (bD 0) (cP (bD 1) (cP (bD 2) gNil)))) (N:=["_law_many","_law_product_here","_law_number_here"]) (nl:=3) (js:=[]) (osc:=aj m4) ⟨rfl,rfl,by decide +kernel,by decide +kernel,by decide +kernel,rfl,.nil,by decide +kernel⟩ rfl
    (cK (ar (oS hrS) (by rfl) m_sorted (by rfl) (@ag _ _ _ _ _ (pv 5) ad rfl)))
    (fun C fp s H=>(cV (X:=d6 _ ["_law_many","_law_product_here","_law_number_here"] _ C fp s H) rfl (aL (aE (X:=d6 _ ["_law_many","_law_product_here","_law_number_here"] _ C fp s H) (i:=0) (by show (["_law_many","_law_product_here","_law_number_here"]:List Str).Nodup; decide +kernel) rfl (Or.inl rfl) (Or.inr rfl)) (aL (aE (X:=d6 _ ["_law_many","_law_product_here","_law_number_here"] _ C fp s H) (i:=1) (by show (["_law_many","_law_product_here","_law_number_here"]:List Str).Nodup; decide +kernel) rfl (Or.inl rfl) (Or.inr rfl)) (aL (aE (X:=d6 _ ["_law_many","_law_product_here","_law_number_here"] _ C fp s H) (i:=2) (by show (["_law_many","_law_product_here","_law_number_here"]:List Str).Nodup; decide +kernel) rfl (Or.inl rfl) (Or.inr rfl)) cw)))))
    (fun C fp s H=>cL)
    (fun C fp s H=>(@bH _ _ _ _ _ (@ag _ _ _ _ _ (pv 1) (@ag _ _ _ _ _ (pv 2) ad rfl) rfl))))))))),?_⟩
  have hlen:=hts.length
  have gg:∀ i,i≤ts.length->oh p 4000 (aV p (ts.take i))∧((aV p (ts.take i)).map (·.1)).Nodup∧(aV p (ts.take i)).length≤i:=fun i hi=>by
   obtain ⟨g1,g2,g3⟩:=gh (m:=m) hp i (ts.take i) (by simp; omega) fun t ht=>hG t (List.mem_of_mem_take ht)
   refine ⟨fun e he=>?_,g2,g3⟩
   have b:=g1 e he
   have le:(m + 1) * i + 7≤4000:=Nat.le_trans (Nat.add_le_add_right (Nat.mul_le_mul_left _ hi) _) hm
   exact ⟨b.1,b.2.1.mono le,b.2.2.mono le⟩
  have one:∀ {n:Nat}{a:Int × Int},Gn p n a->p≠0->a.2=1:=fun h z=>(h.1.pr z).1
  refine fun dd hdd=>?_
  have s1:au H (upd H dd (.dT [])):=ak hdd
  refine ⟨_,rfl,l,rfl,⟨ys,aO.of (s1 _ _ hl)⟩,?_⟩
  refine ⟨fun i m σ' H'=>m=ts.length - i∧i≤ts.length∧au H H'∧(∃ kvs,H' dd=some (.dT kvs)∧DR H' kvs (aV p (ts.take i)))∧∃ o3 o4,σ'=[some (.int p),some (.ref l),some (.ref dd),o3,o4,none],
   ⟨ts.length,by simp,Nat.zero_le _,s1,⟨[],ac,.nil⟩,none,none,rfl⟩,?_⟩
  rintro i m' σ' H' ⟨rfl,hi,sH,⟨kvs,hd,dr⟩,o3,o4,rfl⟩
  have hl':=sH _ _ hl
  obtain ⟨gd,gnd,gl⟩:=gg i hi
  by_cases hlt:i < ts.length
  ·have hly:i < ys.length:=by omega
   refine .inr ⟨⟨ys,ys[i],aO.of hl',by simp [hly]⟩,fun σ' H'=>i + 1≤ts.length∧au H H'∧(∃ kvs,H' dd=some (.dT kvs)∧DR H' kvs (aV p (ts.take (i + 1))))∧∃ o3 o4,σ'=[some (.int p),some (.ref l),some (.ref dd),o3,o4,none],?_,fun y H2 hy=>?_⟩
   ·rintro σ' H' ⟨h1,h2,h3,h4⟩
    exact ⟨ts.length - (i + 1),by omega,rfl,h1,h2,h3,h4⟩
   ·obtain ⟨rfl,hy⟩:=hy
    obtain ⟨t,et,tr⟩:=bJ hts (hy ys (aO.of hl'))
    obtain ⟨a,pr,nu,rfl,ha,hpr,hnu⟩:=tr.keep (aA.of sH)
    have gt:=hG t (List.mem_of_getElem? et)
    have esn:ts.take (i + 1)=ts.take i++[t]:=by rw [List.take_add_one,et]; rfl
    have hpr':∀ H3:Hp,aA H2 H3->H3 pr=some (.tup ((je t.1).map kV)):=fun H3 k=>by rw [im]; exact k _ _ hpr
    have fin:∀ (H3:Hp)(an:Addr),au H H3->aA H2 H3->H3 dd=some (.dT kvs)->((aV p (ts.take i)).any (fun e=>decide (e.1=t.1))=false->H3 an=some (cj t.2.1 t.2.2)) →
     (∀ e∈aV p (ts.take i),e.1=t.1->H3 an=some (cj (dI p e.2 t.2).1 (dI p e.2 t.2).2)) →
     au H (upd H3 dd (.dT (eL kvs (je t.1) (.ref an))))∧∃ kvs',(upd H3 dd (.dT (eL kvs (je t.1) (.ref an)))) dd=some (.dT kvs')∧DR (upd H3 dd (.dT (eL kvs (je t.1) (.ref an)))) kvs' (aV p (ts.take (i + 1))):=by
     intro H3 an s3 k3 h3 hno hyes
     refine ⟨fun b u e=>by rw [al (ap e hdd)]; exact s3 b u e,_,ac,?_⟩
     rw [esn,eF]
     exact (vy (dr.keep k3) gnd hno hyes).keep (aA.upd fun xs z=>by rw [h3] at z; cases z)
    have klen:kvs.length < sizeLine:=by
     rw [dr.length]
     exact Nat.lt_of_le_of_lt gl (Nat.lt_trans (Nat.lt_of_le_of_lt hi h64) (by decide))
    refine ⟨a,_,rfl,bc.of ha,rfl,_,_,rfl,_,_,rfl,rfl,?_⟩
    refine ⟨_,rfl,_,rfl,dd,rfl,.inr ⟨kvs,.inl hd⟩,_,rfl,(by show 2≤sizeLine; decide),fun t0 ht0=>?_⟩
    have sZ:au H2 (upd H2 t0 (.tup [.int 0,.int 1])):=ak ht0
    refine ⟨_,ir.t (sZ _ _ hd) (hpr' _ (aA.of sZ)),?_⟩
    cases hq:(aV p (ts.take i)).any (fun e=>decide (e.1=t.1)) with
    | false =>
      rw [tw t.1 dr hq]
      refine ⟨_,rfl,p,0,1,t.2.1,t.2.2,t0,nu,rfl,hp,ac,sZ _ _ hnu,(by unfold B; decide),(by show (1:Nat) < 2 ^ 4000; exact Nat.one_lt_two_pow (by decide)),gt.2.1.mono hm2,gt.2.2.mono hm2,(by decide),gt.ne,fun z=>by rw [one gt z]; decide,fun H3 an s3 h3=>?_⟩
      have ez:dI p (0,1) t.2=t.2:=ua hp gt
      have h3':H3 an=some (cj t.2.1 t.2.2):=by
       have:H3 an=some (cj (dI p (0,1) t.2).1 (dI p (0,1) t.2).2):=h3
       rw [ez] at this
       exact this
      have sA:au H2 H3:=fun b u e=>s3 _ _ (sZ _ _ e)
      refine ⟨_,rfl,_,rfl,dd,_,rfl,pF.t (sA _ _ hd) (hpr' _ (aA.of sA)) klen,?_⟩
      obtain ⟨f1,f2⟩:=fin H3 an (fun b u e=>sA _ _ (sH _ _ e)) (aA.of sA) (sA _ _ hd) (fun _=>h3') fun e he z=>by
       have:(aV p (ts.take i)).any (fun e=>decide (e.1=t.1))=true:=List.any_eq_true.mpr ⟨e,he,by simpa using z⟩
       rw [hq] at this; cases this
      exact ⟨hlt,f1,f2,_,_,rfl⟩
    | true =>
      obtain ⟨e,he,ek,a0,hv,ha0⟩:=jA t.1 dr hq
      rw [hv]
      have ge:=gd e he
      refine ⟨_,rfl,p,e.2.1,e.2.2,t.2.1,t.2.2,a0,nu,rfl,hp,sZ _ _ ha0,sZ _ _ hnu,ge.2.1,ge.2.2,gt.2.1.mono hm2,gt.2.2.mono hm2,ge.ne,gt.ne,fun z=>by rw [one gt z,one ge z]; decide,fun H3 an s3 h3=>?_⟩
      have sA:au H2 H3:=fun b u e=>s3 _ _ (sZ _ _ e)
      refine ⟨_,rfl,_,rfl,dd,_,rfl,pF.t (sA _ _ hd) (hpr' _ (aA.of sA)) klen,?_⟩
      obtain ⟨f1,f2⟩:=fin H3 an (fun b u e=>sA _ _ (sH _ _ e)) (aA.of sA) (sA _ _ hd) (fun z=>by rw [hq] at z; cases z) fun e' he' z=>by
       have:e'=e:=gD gnd he' he (z.trans ek.symm)
       subst this
       exact h3
      exact ⟨hlt,f1,f2,_,_,rfl⟩
  ·have ei:i=ts.length:=by omega
   subst ei
   refine .inl ⟨⟨ys,aO.of hl',by omega⟩,?_⟩
   rw [List.take_length] at dr gd gnd gl
   refine ⟨_,rfl,dd,kvs,rfl,.inr ⟨hd,fun o=>?_⟩⟩
   have sF:au H (upd H' dd (n8 o kvs)):=fun b u e=>by rw [al (ap e hdd)]; exact sH b u e
   have drF:DR (upd H' dd (n8 o kvs)) kvs (aV p ts):=dr.keep (aA.upd fun xs z=>by rw [hd] at z; cases z)
   have kl:kvs.length=(aV p ts).length:=dr.length
   refine ⟨fun i m xs σ' H2=>m=(aV p ts).length - i∧i≤(aV p ts).length∧au H H2∧H2 dd=some (n8 o kvs)∧DR H2 kvs (aV p ts)∧gy H2 xs (((aV p ts).take i).filter fun e=>e.2.1 != 0)∧∃ o1,σ'=[o1,some (.ref dd)],
    ⟨(aV p ts).length,by simp,Nat.zero_le _,sF,ac,drF,.nil,none,rfl⟩,?_⟩
   rintro i m' xs σ' H2 ⟨rfl,hi2,s2,hd2,dr2,hx2,o1,rfl⟩
   have xl:xs.length≤(aV p ts).length:=by
    rw [hx2.length]
    exact Nat.le_trans (List.length_filter_le _ _) (by simp; omega)
   refine ⟨Nat.lt_of_le_of_lt (Nat.le_trans xl gl) (Nat.lt_trans h64 (by decide)),?_⟩
   by_cases hlt2:i < (aV p ts).length
   ·refine .inr ⟨⟨by omega,hd2⟩,fun x H3 hx=>?_⟩
    obtain ⟨b,k,v,hk,hb,rfl,rfl⟩:=hx
    obtain ⟨e,ee,ek,_⟩:=bJ dr2 hk
    have ek:k=je e.1:=ek
    subst ek
    have he:=List.mem_of_getElem? ee
    have ge:=gd e he
    have esn:(aV p ts).take (i + 1)=(aV p ts).take i++[e]:=by rw [List.take_add_one,ee]; rfl
    obtain ⟨e',he',ek',a,hv,ha⟩:=jA e.1 dr2 (List.any_eq_true.mpr ⟨e,he,by simp⟩)
    have:e'=e:=gD gnd he' he ek'
    subst this
    have dg:∀ H4:Hp,au H3 H4->ir H4 dd (.ref b) (some (.ref a)):=fun H4 s4=>.inr ⟨kvs,je e'.1,b,.inr ⟨o,s4 _ _ hd2⟩,rfl,s4 _ _ hb,hv.symm⟩
    have hb':=hb
    rw [im] at hb'
    refine ⟨_,rfl,_,rfl,dd,.ref a,rfl,dg _ (au.refl _),(by show 2≤sizeLine; decide),fun t0 ht0=>?_⟩
    have sZ:au H3 (upd H3 t0 (cj 0 1)):=ak ht0
    refine ⟨_,_,vD (sZ _ _ ha),vD ac,by rw [zQ]; decide,_,rfl,?_⟩
    rw [CG]
    cases hz:(e'.2.1 != 0) with
    | true =>
      have z:((e'.2.1 == 0&&e'.2.2 == 1) != true)=true:=by
       have:e'.2.1≠0:=by simpa using hz
       simp [this]
      rw [z]
      refine br ⟨_,rfl,b,_,rfl,.inr (bc.of (sZ _ _ hb')),_,rfl,_,rfl,_,rfl,dd,.ref a,rfl,dg _ sZ,(by show 3≤sizeLine; decide),fun t' ht'=>?_⟩
      rw [List.length_map]
      have sT:au (upd H3 t0 (cj 0 1)) (upd (upd H3 t0 (cj 0 1)) t' (.tup [.int e'.1.length,.ref b,.ref a])):=ak ht'
      have sA:au H3 (upd (upd H3 t0 (cj 0 1)) t' (.tup [.int e'.1.length,.ref b,.ref a])):=fun c u e=>sT _ _ (sZ _ _ e)
      refine ⟨(aV p ts).length - (i + 1),by omega,rfl,hlt2,fun c u e=>sA _ _ (s2 _ _ e),sA _ _ hd2,dr2.keep (aA.of sA),?_,_,rfl⟩
      rw [esn,List.filter_append]
      have ef:[e'].filter (fun e=>e.2.1 != 0)=[e']:=by simp [hz]
      rw [ef]
      exact Paired.snoc (gy.keep hx2 (aA.of sA)) ⟨t',b,a,rfl,ac,sA _ _ hb',sA _ _ ha⟩
    | false =>
      have z:((e'.2.1 == 0&&e'.2.2 == 1) != true)=false:=by
       have h0:e'.2.1=0:=by simpa using hz
       have h1:e'.2.2=1:=by
        have g1:=ge.1.pos
        have g2:=ge.1.red
        rw [h0] at g2
        have:e'.2.2.natAbs=1:=by simpa using g2
        omega
       simp [h0,h1]
      rw [z]
      refine bx ⟨(aV p ts).length - (i + 1),by omega,rfl,hlt2,fun c u e=>sZ _ _ (s2 _ _ e),sZ _ _ hd2,dr2.keep (aA.of sZ),?_,_,rfl⟩
      rw [esn,List.filter_append]
      have ef:[e'].filter (fun e=>e.2.1 != 0)=[]:=by simp [hz]
      rw [ef,List.append_nil]
      exact gy.keep hx2 (aA.of sZ)
   ·have ei2:i=(aV p ts).length:=by omega
    subst ei2
    refine .inl ⟨⟨by omega,hd2⟩,fun D hD=>?_⟩
    rw [List.take_length] at hx2
    have sD:au H2 (upd H2 D (.lst xs)):=ak hD
    have hx3:=gy.keep hx2 (aA.of sD)
    refine ⟨_,rfl,D,xs,_,rfl,aO.of ac,Nat.lt_of_le_of_lt (Nat.le_trans xl gl) h64,lS hx3,qY gnd _,fun D2 hD2=>?_⟩
    have hz3:gy (upd H2 D (.lst xs)) ((cA ((((aV p ts).filter fun e=>e.2.1 != 0).map keyOf).zip xs)).map (·.2)) (cC (aV p ts)):=jC (gF (jZ hx3))
    generalize (cA ((((aV p ts).filter fun e=>e.2.1 != 0).map keyOf).zip xs)).map (·.2)=zs at hz3 ⊢
    have zl:=hz3.length
    have tl:(cC (aV p ts)).length≤(aV p ts).length:=by
     unfold cC
     rw [List.length_map,(cz _).length_eq,List.length_map]
     exact List.length_filter_le _ _
    have sE:au (upd H2 D (.lst xs)) (upd (upd H2 D (.lst xs)) D2 (.lst zs)):=ak hD2
    have hz4:=gy.keep hz3 (aA.of sE)
    have sHE:au H (upd (upd H2 D (.lst xs)) D2 (.lst zs)):=fun c u e=>sE _ _ (sD _ _ (s2 _ _ e))
    have eD2:upd (upd H2 D (.lst xs)) D2 (.lst zs) D2=some (.lst zs):=ac
    generalize upd (upd H2 D (.lst xs)) D2 (.lst zs)=H4 at hz4 sHE eD2 ⊢
    refine ⟨D2,rfl,⟨zs,aO.of eD2⟩,?_⟩
    refine ⟨fun i m us σ' H5=>m=zs.length - i∧i≤zs.length∧au H4 H5∧a8 H5 us ((cC (aV p ts)).take i)∧∃ o1 o2 o3,σ'=[o1,o2,o3],⟨zs.length,by simp,Nat.zero_le _,au.refl _,.nil,none,none,none,rfl⟩,?_⟩
    rintro i m' us σ' H5 ⟨rfl,hi5,s5,hu5,o1,o2,o3,rfl⟩
    have ul:us.length≤zs.length:=by
     rw [hu5.length]
     simp; omega
    refine ⟨Nat.lt_of_le_of_lt (Nat.le_trans ul (Nat.le_trans (Nat.le_of_eq zl) (Nat.le_trans tl gl))) (Nat.lt_trans h64 (by decide)),?_⟩
    have eD5:=s5 _ _ eD2
    by_cases hlt5:i < zs.length
    ·refine .inr ⟨⟨zs,zs[i],aO.of eD5,by simp [hlt5]⟩,fun x H6 hx=>?_⟩
     obtain ⟨rfl,hx⟩:=hx
     obtain ⟨e,ee,er⟩:=bJ hz4 (hx zs (aO.of eD5))
     obtain ⟨t0,b,a,rfl,h1,h2,h3⟩:=er.keep (aA.of s5)
     have esn:(cC (aV p ts)).take (i + 1)=(cC (aV p ts)).take i++[e]:=by rw [List.take_add_one,ee]; rfl
     refine ⟨t0,_,rfl,bc.of h1,rfl,_,_,rfl,_,_,rfl,_,_,rfl,rfl,?_⟩
     dsimp only [tYes]
     refine br ⟨_,rfl,_,rfl,(by show 2≤sizeLine; decide),fun t' ht'=>?_⟩
     have sT:au H6 (upd H6 t' (.tup [.ref b,.ref a])):=ak ht'
     refine ⟨zs.length - (i + 1),by omega,rfl,hlt5,fun c u e=>sT _ _ (s5 _ _ e),?_,_,_,_,rfl⟩
     rw [esn]
     exact Paired.snoc (a8.keep hu5 (aA.of sT)) ⟨t',b,a,rfl,ac,sT _ _ h2,sT _ _ h3⟩
    ·have ei5:i=zs.length:=by omega
     subst ei5
     refine .inl ⟨⟨zs,aO.of eD5,Nat.le_refl _⟩,fun D3 hD3=>?_⟩
     rw [zl,List.take_length] at hu5
     have sL:au H5 (upd H5 D3 (.lst us)):=ak hD3
     exact q _ D3 _ (fun c u e=>sL _ _ (s5 _ _ (sHE _ _ e))) ac (a8.keep hu5 (aA.of sL))
end
noncomputable abbrev mH:Stmt:=a9 (aY 30) 0
noncomputable def Bb (ks:List Int):Prop:=jP (some (ks.map V.int))=true∧ks.length < 4000
theorem xU {p t b:Int}(n:Num p t b):wf p (some (.int t,.int b))=true:=by
 unfold wf
 dsimp only
 by_cases z:p=0
 ·rw [if_pos z,n.red]
  have:=n.pos
  simp
  omega
 ·rw [if_neg z]
  obtain ⟨h1,h2,h3⟩:=n.pr z
  simp [h1,h2,h3]
theorem A6 {p:Int}{n:Nat}{H:Hp}{y:V}{t:Tm}(h:AK H y t)(g:Gn p n t.2)(pd:Bb t.1):TmX p H y true:=by
 obtain ⟨a,pr,nu,rfl,ha,hpr,hnu⟩:=h
 have e:TmX p H (.ref a) (jP (some (t.1.map V.int))&&wf p (some (.int t.2.1,.int t.2.2))):=.two ha (.tup hpr (by rw [List.length_map]; exact pd.2) fun y hy=>by
  obtain ⟨k,_,rfl⟩:=List.mem_map.mp hy
  exact ⟨_,.int k⟩) (.two hnu (.int _) (.int _))
 rw [pd.1,xU g.1] at e
 exact e
theorem vI {p:Int}{n:Nat}{H:Hp}:∀ {ys:List V}{ts:List Tm},a8 H ys ts->(∀ t∈ts,Gn p n t.2∧Bb t.1)->∀ y∈ys,TmX p H y true
 | _,_,.nil,_,y,hy=>nomatch hy
 | _,_,.cons h t,g,y,hy=>by
   rcases List.mem_cons.mp hy with rfl | hy
   ·exact A6 h (g _ List.mem_cons_self).1 (g _ List.mem_cons_self).2
   ·exact vI t (fun t ht=>g t (List.mem_cons_of_mem _ ht)) y hy
structure SumK (K:Frag)(mg:Str->Option Value)(C:Addr):Prop where
 cl:Cls K C
 nF:dM K C "its_field"
 nT:dM K C "its_terms"
 mgC:mg "Sum"=some (.ref C)
noncomputable def n5 (fl D:Addr):List (Str × V):=[("its_field",.ref fl),("its_terms",.ref D)]
noncomputable def mE (C CF:Addr):Sp:=fun vs H Q _=>∃ (s dx fl dxf:Addr)(p:Int)(x:V)(ts:List Tm)(m:Nat),vs=[.ref s,.ref fl,x]∧H s=some (.ins C dx [])∧H fl=some (.ins CF dxf (gu p))∧FP p ∧
 ((x = .non∧ts=[])∨∃ l ys,x = .ref l∧H l=some (.lst ys)∧a8 H ys ts)∧ts.length < 64∧(∀ t∈ts,Gn p m t.2∧Bb t.1)∧(m + 1) * ts.length + 7≤4000∧m≤4000 ∧
 ∀ H' D zs,SameBut s H H'->H' s=some (.ins C dx (n5 fl D))->H' D=some (.lst zs)->a8 H' zs (cC (aV p ts))->Q .non H'
theorem yy:FnScope ["self","field","terms"] ["self","field","terms"] (aj mH):=⟨rfl,rfl,rfl,by decide +kernel,rfl,by decide +kernel,by decide +kernel⟩
section
variable {P:Program}{w:World}{K:PySem.W.Frag}{mg:Str->Option Value}{base:Heap}
theorem wS {f fg fc C CF T:Addr}{fd fdg fdc:FuncData}(F:FunD K "__init__" "Sum.__init__" mH f fd T)(c:SumK K mg C)
 (FG:FnOk P w K mg base (aU P w) 5 fg fdg ["field","terms"] (m9 CF))(bG:L2.ax K fdg ["field","terms"] [])(mG:mg "gathered"=some (.ref fg))(kG:keepIn K (.ref fg)=true)
 (FC:FnOk P w K mg base (aU P w) 5 fc fdc ["field","terms"] (lI CF))(bC:L2.ax K fdc ["field","terms"] [])(mC:mg "checked_terms"=some (.ref fc))(kC:keepIn K (.ref fc)=true):
 FnOk P w K mg base (aU P w) 6 f fd ["self","field","terms"] (mE C CF):=by
 refine F.okE yy (fun vs H Q E h=>?_) (fun cdv A outer s H vs Q E hr h=>?_)
 ·obtain ⟨s,dx,fl,dxf,p,x,ts,m,rfl,_⟩:=h
  rfl
 ·obtain ⟨s0,dx,fl,dxf,p,x,ts,m,rfl,hs,hf,hp,hx,h64,hG,hm,hm2,q⟩:=h
  have hr5:Room 5 _:=hr.mono (by decide)
  refine ⟨_,ai (nh (pv 0) (pv 1) rfl) (am (nh (pv 0) (aq FG hr5 (by rfl) mG kG bG .nil ae (@ag _ _ _ _ _ (pv 1) (@ag _ _ _ _ _ (aq FC hr5 (by rfl) mC kC bC .nil ae (@ag _ _ _ _ _ (pv 1) (@ag _ _ _ _ _ (pv 2) ad rfl) rfl)) ad rfl) rfl)) rfl)),?_⟩
  refine ⟨_,rfl,_,rfl,s0,C,dx,_,rfl,hs,c.cl,c.nF,by decide,?_⟩
  have nfs:fl≠s0:=fun z=>by
   rw [z,hs] at hf
   injection hf with hf
   injection hf with _ _ hf
   cases hf
  have hf1:upd H s0 (.ins C dx (dE "its_field" (.ref fl) [])) fl=some (.ins CF dxf (gu p)):=by rw [al nfs]; exact hf
  have kT:aA H (upd H s0 (.ins C dx (dE "its_field" (.ref fl) []))):=aA.upd fun xs z=>by rw [hs] at z; cases z
  have fin:∀ (H2:Hp)(l:Addr)(ys:List V),au (upd H s0 (.ins C dx (dE "its_field" (.ref fl) []))) H2->H2 l=some (.lst ys)->a8 H2 ys ts->m9 CF [.ref fl,.ref l] H2 (fun y H1=>c7 0 [some (.ref s0),some (.ref fl),some x] H1 fun x2 H2=>∃ a C dx fs,x2 = .ref a∧H2 a=some (.ins C dx fs)∧Cls K C∧dM K C "its_terms"∧fs.length < 1000 ∧
   Q .non (upd H2 a (.ins C dx (dE "its_terms" y fs)))) fun _ _ _=>False:=by
   intro H2 l ys s2 hl ht
   refine ⟨fl,dxf,l,p,ys,ts,m,rfl,s2 _ _ hf1,hp,hl,ht,h64,fun t ht=>(hG t ht).1,hm,hm2,fun H3 D zs s3 hD hz=>?_⟩
   have hs3:H3 s0=some (.ins C dx (dE "its_field" (.ref fl) [])):=s3 _ _ (s2 _ _ ac)
   refine ⟨_,rfl,s0,C,dx,_,rfl,hs3,c.cl,c.nT,(by show 1 < 1000; decide),?_⟩
   have nD:D≠s0:=fun z=>by rw [z,hs3] at hD; cases hD
   refine q _ D zs (fun b u e nb=>?_) ac (by rw [al nD]; exact hD) (a8.keep hz (aA.upd fun xs z=>by rw [hs3] at z; cases z))
   rw [al nb]
   exact s3 _ _ (s2 _ _ (by rw [al nb]; exact e))
  rcases hx with ⟨rfl,rfl⟩ | ⟨l,ys,rfl,hl,ht⟩
  ·refine ⟨_,rfl,_,rfl,_,rfl,fl,dxf,p,.non,rfl,hf1,hp,.inl ⟨rfl,fun l hl=>?_⟩⟩
   exact fin _ l [] (ak hl) ac .nil
  ·have nl:l≠s0:=fun z=>by rw [z,hs] at hl; cases hl
   have hl1:upd H s0 (.ins C dx (dE "its_field" (.ref fl) [])) l=some (.lst ys):=by rw [al nl]; exact hl
   have ht1:=a8.keep ht kT
   refine ⟨_,rfl,_,rfl,_,rfl,fl,dxf,p,.ref l,rfl,hf1,hp,.inr ⟨l,ys,rfl,hl1,?_,vI ht1 hG,fun H2 s2=>?_⟩⟩
   ·rw [ht.length]; omega
   ·exact fin _ l ys s2 (s2 _ _ hl1) (a8.keep ht1 (aA.of s2))
end
end K07
namespace L2
open PySem PySem.Spec PyProof.Rows PySem.W
theorem fT:∀ {ns:List Int}{us:List Value},aJ (ns.map V.int) us->IntsAre us ns
 | [],us,r=>by cases r; exact .nil
 | n :: ns,us,r=>by
   rw [List.map_cons] at r
   cases r with
   | cons h t =>
     obtain ⟨k,rfl⟩:=(show ∃ k,_=Value.int n k from h)
     exact .cons n k (fT t)
theorem wO:∀ {us:List Value}{ns:List Int},IntsAre us ns->aJ (ns.map V.int) us
 | _,_,.nil=>.nil
 | _,_,.cons n t h=>.cons ⟨t,rfl⟩ (wO h)
section
variable {X:Cx}
theorem p9:cR X (.builtin "sorted") (fun xs H Q=>∃ (l:Addr)(ns:List Int),xs=[.ref l]∧aO X.K H l (ns.map V.int)∧ns.length < 64∧∀ (D:Addr)(ms:List Int),H D=none->ms.Perm ns->ms.Pairwise (· ≤ ·)->Q (.ref D) (upd H D (.lst (ms.map V.int)))):=by
 intro pins s σ H xs us Q I r h
 obtain ⟨l,ns,rfl,hl,h64,q⟩:=h
 obtain ⟨u,rfl,ru⟩:=dH r
 cases (show u=Value.ref l from ru)
 obtain ⟨its,rv,pl,hz⟩:=I.list hl
 have e1:=rv.length
 rw [List.length_map] at e1
 refine sorted_ints pl.isList (fT rv) (by omega) fun out ms a1 a2 a3=>?_
 obtain ⟨c,hc⟩:=sortedAll_at s.heap its out
 have fr:s.heap.get? (s.heap.objs.size + 1)=none:=by
  cases e:s.heap.get? (s.heap.objs.size + 1) with
  | none=>rfl
  | some o=>exact absurd (Heap.lt_size e) (Nat.not_lt.mpr (Nat.le_succ _))
 have hlen:(ms.map V.int).length≤sizeLine:=by
  rw [List.length_map,a2.length_eq]
  exact Nat.le_trans (Nat.le_of_lt h64) (by decide)
 exact ⟨.ref _,_,I.newObj (t':=s.toks) (o:=.lst (ms.map V.int)) (fun _ _ e=>sortedAll_old e) fr ⟨hlen,out.toList,c,wO a1,by simpa using hc⟩,rfl,q _ ms (I.hnone fr) a2 a3⟩
theorem uQ (hc:X.calm=true):cR X (.builtin "max") (fun xs H Q=>∃ (l:Addr)(ns:List Int),xs=[.ref l]∧aO X.K H l (ns.map V.int)∧ns≠[]∧∀ m,m∈ns->(∀ a∈ns,a≤m)->Q (.int m) H):=by
 intro pins s σ H xs us Q I r h
 obtain ⟨l,ns,rfl,hl,hne,q⟩:=h
 obtain ⟨u,rfl,ru⟩:=dH r
 cases (show u=Value.ref l from ru)
 obtain ⟨its,rv,pl,hz⟩:=I.list hl
 have hi:=fT rv
 obtain ⟨xs,e⟩:=hi.allInts.items
 have hns:ns=xs.toList.map (·.1):=by rw [← hi.numsOf,← nums_intItems,← e]
 have hsz:0 < xs.size:=by
  have h3:0 < ns.length:=List.length_pos_iff.mpr hne
  rw [hns,List.length_map,Array.length_toList] at h3
  exact h3
 have hl2:=pl.isList
 rw [e] at hl2
 refine max_intList (I.ok.hd hc) hl2 hsz fun v h' tk hv hk=>?_
 obtain ⟨t,rfl⟩:=intItems_at hv
 obtain ⟨h1,h2⟩:=argBest_gt (numAt xs) (xs.size - 1)
 refine ⟨.int _,H,I.kept (t':=tk) hk,⟨t,rfl⟩,q _ ?_ fun a ha=>?_⟩
 ·rw [hns,numAt_eq]; exact getD_mem (by rw [List.length_map,Array.length_toList]; omega)
 ·rw [hns] at ha
  obtain ⟨j,hj,rfl⟩:=mem_getD ha
  rw [List.length_map,Array.length_toList] at hj
  rw [← numAt_eq]; exact h2 j (by omega)
noncomputable def iy (ns:List Int):Nat:=(firstMet (fun i=>ns.getD i 0) ns.length).length
noncomputable def xM (K:Frag)(ta:TE):TE:=fun σ H Q=>cf ta tNil σ H fun vs H1=>∃ (l:Addr)(ns:List Int),vs=[.ref l]∧aO K H1 l (ns.map V.int)∧ns.length < 4000∧Q (.int (iy ns)) H1
theorem mr {e:Expr}{ta:TE}{p p2 pos pos2:Pos}(ha:PE X e ta)(hc:X.calm=true)(hgl:Gl X "len")(hml:X.mg "len"=none)(hgs:Gl X "set")(hms:X.mg "set"=none)(hs:fL e=false:=by rfl):
 PE X (.Call (.Name "len" p) [.Call (.Name "set" p2) [e] [] pos2] [] pos) (xM X.K ta):=by
 intro pins s σ H Q I h
 refine wpAny_Call_Name_kw (du I hgl hml (by rfl) ?_ (by decide) (by decide))
 refine callWith_builtin1 ?_ (bn rfl) rfl
 rw [bn rfl]
 show wpAny _ _ (spliced ((false,eval (.Call (.Name "set" p2) [e] [] pos2) X.env):: backTo pos (starEach [] X.env))) _ _ s
 refine Calls.spliced_cons ?_
 refine wpAny_Call_Name_kw (du I hgs hms (by rfl) ?_ (by decide) (by decide))
 refine callWith_type1 (bF (ag ha ad hs pos2 pins s σ H _ I h) fun us s1 ⟨vs,H1,I1,r1,l,ns,hv,hq,hz,q⟩=>?_) (bn hs) rfl
 subst hv
 obtain ⟨u,rfl,ru⟩:=dH r1
 cases (show u=Value.ref l from ru)
 obtain ⟨its,rv,pl,hz2⟩:=I1.list hq
 have e1:=rv.length
 rw [List.length_map] at e1
 refine call_set_list (I.ok.hd hc) pl.isList (by simpa using fT rv) (by rw [List.size_toArray]; show its.length + 1 < 4096; omega) fun h' tk hS old=>?_
 obtain ⟨o,es,ep,t,ho,hx,hd,_,_,_,hf,hn⟩:=hS
 have old':∀ b o,s1.heap.get? b=some o->h'.get? b=some o:=fun b o e=>old b o (Heap.lt_size e) e
 have I2:Inv X pins σ H1 { s1 with heap:=h',toks:=tk }:=I1.kept (t':=tk) old'
 have en:es.size=iy ns:=by rw [hn]; unfold iy; rw [List.size_toArray,← e1]
 have le:iy ns≤ns.length:=firstMet_length_le _ _
 refine Calls.spliced_nil ?_
 refine call_len_set (s:={ s1 with heap:=h',toks:=tk }) ho hx hd hf (by rw [en]; omega) ?_
 exact ⟨.int (iy ns),H1,I2.tok _,⟨_,by rw [en]⟩,q⟩
end
theorem qZ:∀ (ns acc:List Int),(ns.foldl step_dedup acc).length≤acc.length + ns.length
 | [],acc=>by simp
 | n :: ns,acc=>by
   have h:=qZ ns (step_dedup acc n)
   have e:(step_dedup acc n).length≤acc.length + 1:=by
    unfold step_dedup
    split
    ·omega
    ·simp
   simp only [List.foldl_cons,List.length_cons]
   omega
theorem sG:∀ (ns acc:List Int),acc.Nodup->((ns.foldl step_dedup acc).length=acc.length + ns.length ↔ (acc++ns).Nodup)
 | [],acc,h=>by simp [h]
 | n :: ns,acc,h=>by
   by_cases q:acc.any (· == n)=true
   ·have e:step_dedup acc n=acc:=by unfold step_dedup; rw [if_pos q]
    have m:n∈acc:=by simpa using q
    have l:=qZ ns acc
    constructor
    ·intro z
     rw [List.foldl_cons,e,List.length_cons] at z
     omega
    ·intro z
     exact absurd rfl ((List.nodup_append.mp z).2.2 n m n List.mem_cons_self)
   ·have e:step_dedup acc n=acc++[n]:=by unfold step_dedup; rw [if_neg q]
    have m:n ∉ acc:=by simpa using q
    have nd:(acc++[n]).Nodup:=by
     refine List.nodup_append.mpr ⟨h,by simp,fun a ha b hb z=>?_⟩
     have:b=n:=by simpa using hb
     subst this
     subst z
     exact m ha
    have ih:=sG ns (acc++[n]) nd
    rw [List.foldl_cons,e]
    rw [List.append_assoc] at ih
    simp only [List.length_append,List.length_cons,List.length_nil] at ih ⊢
    rw [← (show acc++([n]++ns)=acc++n :: ns from rfl),← ih]
    constructor <;> intro z <;> omega
theorem jm (ns:List Int):iy ns=ns.length ↔ ns.Nodup:=by
 have e:(List.range ns.length).map (fun i=>ns.getD i 0)=ns:=by
  apply List.ext_getElem
  ·simp
  ·intro i h1 h2
   simp [h2]
 unfold iy firstMet
 rw [e]
 simpa using sG ns [] List.nodup_nil
end L2
namespace Mx
open PySem PyProof.Rows
noncomputable def jd:Option Int->List Int->Option Int
 | b,[]=>b
 | none,n :: ns=>jd (some n) ns
 | some m,n :: ns=>jd (some (if n > m then n else m)) ns
noncomputable def kept (c:Nat):Option (Int × Tok)->Obj
 | none=>{ cls:=.type "list",dict:=none,data:=.seq #[] c,slots:=#[] }
 | some (m,t)=>{ cls:=.type "list",dict:=none,data:=.seq #[.int m t,.int m t] c,slots:=#[] }
section
variable {prog:Program}{w:World}{A:Around}{E:Value->Shared->Prop}{s:Shared}{R:Result->Shared->Prop}
theorem xI {a b:Int}{t u:Tok}{Q:Value->Shared->Prop}(h:Q (.bool (decide (a > b))) s):wpAny (model prog w) A (richCompare .Gt (.int a t) (.int b u)) Q E s :=
 CmpOf.ints_gt (P:=fun i v=>∃ t,v = .int (if i=0 then a else b) t) (fun i=>if i=0 then a else b) (fun {_ _} h=>h) 0 1 _ _ s Q E ⟨t,by simp⟩ ⟨u,by simp⟩ (by simpa using h)
theorem zj (a v:Value):argsOk "max" ⟨[a],[(Str.ofString "default",v)]⟩:=by unfold argsOk; kernel_rfl
theorem oM {I l S:Addr}{items:Array Value}{d:Value}(hh:A.handled=none)(hSI:S≠I)(hSl:S≠l)(hlI:l≠I):∀ (ns:List Int)(i:Nat)(s:Shared)(b:Option (Int × Tok))(c:Nat),
 s.heap.IsListIter I l i->s.heap.IsList l items->IntsAre (items.toList.drop i) ns->s.heap.get? S=some (kept c b) →
 (∀ v h' tk,(match jd (b.map (·.1)) ns with | none=>v=d | some m=>∃ t,v = .int m t)->(∀ x o,x≠I->x≠S->s.heap.get? x=some o->h'.get? x=some o)->R (.ok (.ret v)) { s with heap:=h',toks:=tk }) →
 codeAny (model prog w) A (.builtin "max.loop" ⟨[.ref I,.none,.ref S],[(Str.ofString "default",d)]⟩) R s
 | [],i,s,b,c,hit,hl,hn,hS,hR=>by
   have hx:items[i]?=none:=by
    have e:items.toList.drop i=[]:=by cases hq:items.toList.drop i with
     | nil=>rfl
     | cons x r=>rw [hq] at hn; cases hn
    have:=List.drop_eq_nil_iff.mp e
    simp at this ⊢
    omega
   refine codeAny_builtin F.entry_max_loop ?_
   rw [Around.under_plainId F.plain_max_loop _]
   cases b with
   | none =>
     show wpAny _ A.in1 (seqItems? (.ref S) >>= _) _ _ s
     refine wpAny_bind (wpAny_seqItems hS rfl ?_)
     show wpAny _ A.in1 (tryCatch (pyNext (.ref I)) _ >>= _) _ _ s
     refine wpAny_bind (wpAny_tryCatch (wpAny_pyNext_list_end hh hit hl hx fun h' eb=>?_))
     refine wpAny_bind (wpAny_rule (wpAny_pure ?_))
     exact hR d h' s.toks rfl fun x o h1 _ e=>eb x o h1 e
   | some p =>
     obtain ⟨m,t⟩:=p
     show wpAny _ A.in1 (seqItems? (.ref S) >>= _) _ _ s
     refine wpAny_bind (wpAny_seqItems hS rfl ?_)
     show wpAny _ A.in1 (tryCatch (pyNext (.ref I)) _ >>= _) _ _ s
     refine wpAny_bind (wpAny_tryCatch (wpAny_pyNext_list_end hh hit hl hx fun h' eb=>?_))
     have hS':=eb S _ hSI hS
     show wpAny _ A.in1 (updateSeq S (fun _=>#[]) >>= _) _ _ _
     refine wpAny_bind (wpAny_updateSeq hS' rfl (wpAny_bind (wpAny_letGo (wpAny_pure ?_))))
     exact hR _ _ s.toks ⟨t,rfl⟩ fun x o h1 h2 e=>(Heap.get?_update_other _ _ (Ne.symm h2)).trans (eb x o h1 e)
 | n :: ns,i,s,b,c,hit,hl,hn,hS,hR=>by
   have hname:(toString "max"++toString ".loop":String)="max.loop":=by decide
   obtain ⟨t,hx,hn'⟩:∃ t,items[i]?=some (.int n t)∧IntsAre (items.toList.drop (i + 1)) ns:=by
    cases hq:items.toList.drop i with
    | nil=>rw [hq] at hn; cases hn
    | cons x r =>
      rw [hq] at hn
      cases hn with
      | cons _ t hr =>
        refine ⟨t,?_,?_⟩
        ·have:(items.toList.drop i)[0]?=some (Value.int n t):=by rw [hq]; rfl
         simpa using this
        ·have:items.toList.drop (i + 1)=(items.toList.drop i).drop 1:=by rw [List.drop_drop,Nat.add_comm]
         rw [this,hq]
         exact hr
   refine codeAny_builtin F.entry_max_loop ?_
   rw [Around.under_plainId F.plain_max_loop _]
   cases b with
   | none =>
     show wpAny _ A.in1 (seqItems? (.ref S) >>= _) _ _ s
     refine wpAny_bind (wpAny_seqItems hS rfl ?_)
     show wpAny _ A.in1 (tryCatch (pyNext (.ref I)) _ >>= _) _ _ s
     refine wpAny_bind (wpAny_tryCatch (wpAny_pyNext_list_item hit hl hx fun h' hit' sb=>?_))
     have hS':=(sb.2 S hSI).trans hS
     show wpAny _ A.in1 (updateSeq S (fun _=>#[.int n t,.int n t]) >>= _) _ _ _
     refine wpAny_bind (wpAny_updateSeq hS' rfl ?_)
     rw [hname]
     refine wpAny_pure ⟨plainId_quiet F.plain_max_loop _,?_⟩
     have up:∀ x o,x≠S->h'.get? x=some o->(h'.update S (Obj.mapSeq fun _=>#[.int n t,.int n t])).get? x=some o:=fun x o hx e=>(Heap.get?_update_other _ _ (Ne.symm hx)).trans e
     refine oM hh hSI hSl hlI ns (i + 1) _ (some (n,t)) _ (hit'.at fun o e=>up I o (Ne.symm hSI) e) ((hl.extBut sb.extBut hlI).at fun o e=>up l o (Ne.symm hSl) e) hn' (Heap.get?_update_self _ hS' rfl) fun v h2 tk hv hk=>?_
     exact hR v h2 tk hv fun x o h1 h3 e=>hk x o h1 h3 (up x o h3 ((sb.2 x h1).trans e))
   | some p =>
     obtain ⟨m,u⟩:=p
     show wpAny _ A.in1 (seqItems? (.ref S) >>= _) _ _ s
     refine wpAny_bind (wpAny_seqItems hS rfl ?_)
     show wpAny _ A.in1 (tryCatch (pyNext (.ref I)) _ >>= _) _ _ s
     refine wpAny_bind (wpAny_tryCatch (wpAny_pyNext_list_item hit hl hx fun h' hit' sb=>?_))
     have hS':=(sb.2 S hSI).trans hS
     show wpAny _ A.in1 (tryCatch (holding [.int n t,.int n t] (richCompare .Gt (.int n t) (.int m u) >>= _)) _ >>= _) _ _ _
     refine wpAny_bind (wpAny_tryCatch (wpAny_holding (wpAny_bind (xI ?_))))
     refine wpAny_bind (wpAny_holding (wpAny_truthy_bool ?_))
     refine wpAny_bind (wpAny_letGo (wpAny_pure ?_))
     by_cases hb:n > m
     ·simp only [decide_eq_true hb,if_true]
      refine wpAny_bind (wpAny_updateSeq hS' rfl (wpAny_bind (wpAny_letGo ?_)))
      rw [hname]
      refine wpAny_pure ⟨plainId_quiet F.plain_max_loop _,?_⟩
      have up:∀ x o,x≠S->h'.get? x=some o->(h'.update S (Obj.mapSeq fun _=>#[.int n t,.int n t])).get? x=some o:=fun x o hx e=>(Heap.get?_update_other _ _ (Ne.symm hx)).trans e
      refine oM hh hSI hSl hlI ns (i + 1) _ (some (n,t)) _ (hit'.at fun o e=>up I o (Ne.symm hSI) e) ((hl.extBut sb.extBut hlI).at fun o e=>up l o (Ne.symm hSl) e) hn' (Heap.get?_update_self _ hS' rfl) fun v h2 tk hv hk=>?_
      refine hR v h2 tk ?_ fun x o h1 h3 e=>hk x o h1 h3 (up x o h3 ((sb.2 x h1).trans e))
      simpa only [Option.map_some,jd,if_pos hb] using hv
     ·simp only [decide_eq_false hb,Bool.false_eq_true,if_false]
      refine wpAny_bind (wpAny_letGo ?_)
      rw [hname]
      refine wpAny_pure ⟨plainId_quiet F.plain_max_loop _,?_⟩
      refine oM hh hSI hSl hlI ns (i + 1) _ (some (m,u)) c hit' (hl.extBut sb.extBut hlI) hn' hS' fun v h2 tk hv hk=>?_
      refine hR v h2 tk ?_ fun x o h1 h3 e=>hk x o h1 h3 ((sb.2 x h1).trans e)
      simpa only [Option.map_some,jd,if_neg hb] using hv
theorem yo {id:String}{b:Builtin}{args:List Value}{kw:List (Str × Value)}{Q:Value->Shared->Prop}(hk:builtinKind id=none)(hp:plainId id=true)(hb:entryFor table id=some b)(ha:argsOk id ⟨args,kw⟩)
 (hc:wpAny (model prog w) A.in1 (b ⟨args,kw⟩) (fun fin s'=>match fin with
  | .done f=>(match (Except.ok f:Result) with | .ok (.ret v)=>Q v s' | .ok _=>False | .error e=>E e s')
  | .again c'=>c'.quiet=true∧codeAny (model prog w) A c' (fun r s'=>match r with | .ok (.ret v)=>Q v s' | .ok _=>False | .error e=>E e s') s') E s):
 wpAny (model prog w) A (call (.builtin id) args kw) Q E s:=by
 refine wpAny_call (codeAny_call_builtin hp hb ?_)
 simp only [checkBuiltinCall,hk]
 cases hsig:Manifest.signature? id with
 | none=>exact wpAny_pure hc
 | some xr =>
   have ha':Bind.checkArgs id xr ⟨args,kw⟩=pure ():=by simpa only [argsOk,hsig] using ha
   simp only [ha']
   exact wpAny_pure hc
theorem zo {l:Addr}{items:Array Value}{ns:List Int}{d:Value}{Q:Value->Shared->Prop}(hh:A.handled=none)(hl:s.heap.IsList l items)(hn:IntsAre items.toList ns)
 (hQ:∀ v h' tk,(match jd none ns with | none=>v=d | some m=>∃ t,v = .int m t)->(∀ x o,s.heap.get? x=some o->h'.get? x=some o)->Q v { s with heap:=h',toks:=tk }):
 wpAny (model prog w) A (call (.builtin "max") [.ref l] [(Str.ofString "default",d)]) Q E s:=by
 have hname:(toString "max"++toString ".loop":String)="max.loop":=by decide
 refine yo F.kind_max F.plain_max F.entry_max (zj _ _) ?_
 show wpAny _ A.in1 (Builtin.Builtins.bindParams "max" ["key","default"] 0 ⟨[],[(Str.ofString "default",d)]⟩ >>= _) _ _ s
 refine wpAny_bind (wpAny_of_eq (show Builtin.Builtins.bindParams "max" ["key","default"] 0 ⟨[],[(Str.ofString "default",d)]⟩=pure [none,some d] from rfl) ?_)
 refine wpAny_bind (wpAny_pure ?_)
 refine wpAny_bind (wpAny_pyIter_list hl ?_)
 refine wpAny_bind (wpAny_newObj_type ?_)
 rw [hname]
 have lt:l < s.heap.objs.size:=by obtain ⟨o,e,_⟩:=hl; exact Heap.lt_size e
 have sz:(s.heap.push { cls:=.type "list_iterator",data:=.fields #[.ref l,.int 0 0] }).objs.size=s.heap.objs.size + 1:=Heap.size_push ..
 have g2:∀ x o,s.heap.get? x=some o->((s.heap.push { cls:=.type "list_iterator",data:=.fields #[.ref l,.int 0 0] }).push { cls:=.type "list",data:=.seq #[] }).get? x=some o:=fun x o e=>Heap.get?_push_of_some _ (Heap.get?_push_of_some _ e)
 refine wpAny_pure ⟨plainId_quiet F.plain_max_loop _,oM (items:=items) hh ?_ ?_ (Nat.ne_of_lt lt) ns 0 _ none 0 ⟨_,Heap.get?_push_of_some _ (Heap.get?_push_size _ rfl),rfl,rfl⟩ (hl.at fun o e=>g2 l o e) (by simpa using hn) (Heap.get?_push_size _ rfl) fun v h' tk hv hk=>?_⟩
 ·show (s.heap.push _).objs.size≠s.heap.objs.size
  rw [sz]; exact Nat.succ_ne_self _
 ·show (s.heap.push _).objs.size≠l
  rw [sz]; exact Nat.ne_of_gt (Nat.lt_succ_of_lt lt)
 ·refine hQ v h' tk hv fun x o e=>hk x o (Nat.ne_of_lt (Heap.lt_size e)) ?_ (g2 x o e)
  show x≠(s.heap.push _).objs.size
  rw [sz]; exact Nat.ne_of_lt (Nat.lt_succ_of_lt (Heap.lt_size e))
end
end Mx
namespace L2
open PySem PySem.Spec PyProof.Rows PySem.W
section
variable {X:Cx}{e d:Expr}{ta td:TE}{p kpos pos:Pos}
noncomputable def Bq (K:Frag)(ta td:TE):TE:=fun σ H Q=>cf ta tNil σ H fun vs H1=>cf td tNil σ H1 fun ds H2=>∃ (l:Addr)(ns:List Int)(dv:V),vs=[.ref l]∧ds=[dv]∧aO K H2 l (ns.map V.int)∧Q (match Mx.jd none ns with | none=>dv | some m=>.int m) H2
theorem xY (ha:PE X e ta)(hd:PE X d td)(hc:X.calm=true)(hg:Gl X "max")(hm:X.mg "max"=none)(hs:fL e=false:=by rfl):PE X (.Call (.Name "max" p) [e] [⟨some "default",d,kpos⟩] pos) (Bq X.K ta td):=by
 intro pins s σ H Q I h
 refine wpAny_Call_Name_kw (du I hg hm (by rfl) ?_ (by decide) (by decide))
 refine callWith_builtin_kwB (by rw [bn hs]; rfl) rfl (evalArgs_kw2 rfl ?_ (bn hs))
 refine bF (ag ha ad hs pos pins s σ H _ I h) fun us s1 ⟨vs,H1,I1,r1,h1⟩=>?_
 refine bF (xF (nm:=some "default") (kpos:=kpos) hd zW pos pins s1 σ H1 _ I1 h1) fun ws s2 ⟨ds,H2,I2,r2,l,ns,dv,e1,e2,hl,q⟩=>?_
 subst e1 e2
 obtain ⟨u,rfl,ru⟩:=dH r1
 cases (show u=Value.ref l from ru)
 obtain ⟨w',rfl,rw'⟩:=dH r2
 obtain ⟨its,rv,pl,hz⟩:=I2.list hl
 show wpAny _ X.A (call (.builtin "max") [.ref l] [(Str.ofString "default",w')]) _ _ s2
 refine Mx.zo (I.ok.hd hc) pl.isList (by simpa using fT rv) fun v h' tk hv hk=>?_
 refine ⟨_,H2,I2.kept (t':=tk) hk,?_,q⟩
 cases hb:Mx.jd none ns with
 | none=>rw [hb] at hv; cases hv; exact rw'
 | some m=>rw [hb] at hv; obtain ⟨t,rfl⟩:=hv; exact ⟨t,rfl⟩
end
theorem lN:∀ (ns:List Int)(m:Int),∃ b,Mx.jd (some m) ns=some b∧(b=m∨b∈ns)∧m≤b∧∀ a∈ns,a≤b
 | [],m=>⟨m,rfl,.inl rfl,Int.le_refl _,fun a h=>nomatch h⟩
 | n :: ns,m=>by
   obtain ⟨b,h1,h2,h3,h4⟩:=lN ns (if n > m then n else m)
   refine ⟨b,h1,?_,?_,fun a ha=>?_⟩
   ·rcases h2 with q | q
    ·by_cases z:n > m
     ·rw [if_pos z] at q; exact .inr (by simp [q])
     ·rw [if_neg z] at q; exact .inl q
    ·exact .inr (List.mem_cons_of_mem _ q)
   ·split at h3 <;> omega
   ·rcases List.mem_cons.mp ha with rfl | ha
    ·split at h3 <;> omega
    ·exact h4 a ha
theorem gm {ns:List Int}(h:ns≠[]):∃ b,Mx.jd none ns=some b∧b∈ns∧∀ a∈ns,a≤b:=by
 cases ns with
 | nil=>exact absurd rfl h
 | cons n ns =>
   obtain ⟨b,h1,h2,h3,h4⟩:=lN ns n
   refine ⟨b,h1,?_,fun a ha=>?_⟩
   ·rcases h2 with q | q
    ·simp [q]
    ·exact List.mem_cons_of_mem _ q
   ·rcases List.mem_cons.mp ha with rfl | ha
    ·exact h3
    ·exact h4 a ha
end L2
namespace K07
open PySem L2 PySem.W Nm Srt
noncomputable abbrev rf:Stmt:=a9 (aY 30) 5
noncomputable abbrev sX:Stmt:=a9 (aY 30) 6
noncomputable abbrev qI:Stmt:=a9 (aY 30) 8
noncomputable def pq (C CF:Addr):Sp:=fun vs H Q _=>∃ (s dx fl D:Addr),vs=[.ref s]∧H s=some (.ins C dx (n5 fl D))∧Q (.ref fl) H
noncomputable def oY (C CF:Addr):Sp:=fun vs H Q _=>∃ (s dx fl D:Addr)(zs:List V),vs=[.ref s]∧H s=some (.ins C dx (n5 fl D))∧H D=some (.lst zs)∧∀ l,H l=none->Q (.ref l) (upd H l (.lst zs))
theorem vd:FnScope ["self"] ["self"] (aj rf):=⟨rfl,rfl,rfl,by decide +kernel,rfl,by decide +kernel,by decide +kernel⟩
theorem wk:FnScope ["self"] ["self"] (aj sX):=⟨rfl,rfl,rfl,by decide +kernel,rfl,by decide +kernel,by decide +kernel⟩
section
variable {P:Program}{w:World}{K:PySem.W.Frag}{mg:Str->Option Value}{base:Heap}
theorem tK {f C CF:Addr}{fd:FuncData}(F:Fun K "field" "Sum.field" rf f fd)(c:SumK K mg C):FnOk P w K mg base (aU P w) 1 f fd ["self"] (pq C CF):=by
 refine F.okN vd (fun vs H Q E h=>?_) (fun cdv A outer s H vs Q E hr h=>?_)
 ·obtain ⟨s,dx,fl,D,rfl,_⟩:=h
  rfl
 ·obtain ⟨s0,dx,fl,D,rfl,hs,q⟩:=h
  exact ⟨_,am (av (cp (pv 0) rfl)),_,rfl,s0,C,dx,_,_,rfl,hs,c.cl,c.nF,rfl,q⟩
theorem uU {f C CF:Addr}{fd:FuncData}(F:Fun K "terms" "Sum.terms" sX f fd)(c:SumK K mg C)(m_list:mg "list"=none):FnOk P w K mg base (aU P w) 1 f fd ["self"] (oY C CF):=by
 refine F.okN wk (fun vs H Q E h=>?_) (fun cdv A outer s H vs Q E hr h=>?_)
 ·obtain ⟨s,dx,fl,D,zs,rfl,_⟩:=h
  rfl
 ·obtain ⟨s0,dx,fl,D,zs,rfl,hs,hD,q⟩:=h
  refine ⟨_,am (av (b8 eY (by rfl) m_list (by rfl) (@ag _ _ _ _ _ (cp (pv 0) rfl) ad rfl))),?_⟩
  exact ⟨_,rfl,s0,C,dx,_,_,rfl,hs,c.cl,c.nT,rfl,D,zs,rfl,.inl (aO.of hD),fun l hl=>q l hl⟩
end
noncomputable def lastP (t:Tm):Int:=t.1.getLastD 0 + 1
noncomputable def ay (ts:List Tm):Int:=(Mx.jd none ((ts.filter fun t=>!t.1.isEmpty).map lastP)).getD 0
noncomputable def nX (C:Addr):Sp:=fun vs H Q _=>∃ (s dx fl D:Addr)(zs:List V)(ts:List Tm),vs=[.ref s]∧H s=some (.ins C dx (n5 fl D))∧H D=some (.lst zs)∧a8 H zs ts∧ts.length < 4000∧(∀ t∈ts,t.1.length < 4000)∧∀ H',au H H'->Q (.int (ay ts)) H'
theorem yG:FnScope ["self"] ["self"] (aj qI):=⟨rfl,rfl,rfl,by decide +kernel,rfl,by decide +kernel,by decide +kernel⟩
theorem tD {ks:List Int}(h:ks≠[]):mj (ks.map V.int) (-1)=some (.int (ks.getLastD 0)):=by
 have hl:0 < ks.length:=List.length_pos_iff.mpr h
 unfold mj wQ
 rw [List.length_map,if_neg (by decide),if_pos (by omega)]
 show (ks.map V.int)[((-1:Int) + (ks.length:Int)).toNat]?=_
 have e:((-1:Int) + (ks.length:Int)).toNat=ks.length - 1:=by omega
 rw [e,List.getElem?_map,List.getElem?_eq_getElem (by omega)]
 have g:ks.getLastD 0=ks[ks.length - 1]'(by omega):=by
  rw [List.getLastD_eq_getLast?,List.getLast?_eq_getElem?,List.getElem?_eq_getElem (by omega)]
  rfl
 rw [g]
 rfl
section
variable {P:Program}{w:World}{K:PySem.W.Frag}{mg:Str->Option Value}{base:Heap}
theorem wb {f C:Addr}{fd:FuncData}(F:Fun K "reach" "Sum.reach" qI f fd)(c:SumK K mg C)(m_max:mg "max"=none):FnOk P w K mg base (aU P w) 1 f fd ["self"] (nX C):=by
 refine F.okN yG (fun vs H Q E h=>?_) (fun cdv A outer s H vs Q E hr h=>?_)
 ·obtain ⟨s,dx,fl,D,zs,ts,rfl,_⟩:=h
  rfl
 ·obtain ⟨s0,dx,fl,D,zs,ts,rfl,hs,hD,hz,hl,hl2,q⟩:=h
  refine ⟨_,am (av (xY (cg (g:=lz K 2 (cP (bD 0) (cP (bD 1) gNil))) (N:=["product","number"]) (nl:=2) (js:=[]) (osc:=aj qI) ⟨rfl,rfl,by decide +kernel,by decide +kernel,by decide +kernel,rfl,.nil,by decide +kernel⟩ rfl
   (cK (cp (pv 0) rfl))
   (fun C fp s H=>(cV (X:=d6 _ ["product","number"] _ C fp s H) rfl (aL (aE (X:=d6 _ ["product","number"] _ C fp s H) (i:=0) (by show (["product","number"]:List Str).Nodup; decide +kernel) rfl (Or.inl rfl) (Or.inr rfl)) (aL (aE (X:=d6 _ ["product","number"] _ C fp s H) (i:=1) (by show (["product","number"]:List Str).Nodup; decide +kernel) rfl (Or.inl rfl) (Or.inr rfl)) cw))))
   (fun C fp s H=>dY (show PT _ _ (fun σ H Q=>c7 0 σ H fun x H'=>∃ k,zZ K x H' k∧Q k H') from oU (pv 0) (fun _=>rfl)))
   (fun C fp s H=>(@az _ _ _ _ _ _ _ _ cr (@aW _ _ _ _ _ _ _ (show yh _ (uS K) from cb) (pv 0) (rZ nY ah) (fun _ _=>rfl)) ah))) ah rfl (by rfl) m_max)),?_⟩
  refine ⟨_,rfl,s0,C,dx,_,_,rfl,hs,c.cl,c.nT,rfl,D,rfl,⟨zs,aO.of hD⟩,?_⟩
  refine ⟨fun i m xs σ' H'=>m=zs.length - i∧i≤zs.length∧au H H'∧xs=(((ts.take i).filter fun t=>!t.1.isEmpty).map lastP).map V.int∧∃ o1 o2,σ'=[o1,o2],⟨zs.length,by simp,Nat.zero_le _,au.refl _,rfl,none,none,rfl⟩,?_⟩
  rintro i m xs σ' H' ⟨rfl,hi,sH,rfl,o1,o2,rfl⟩
  have zl:=hz.length
  have hD':=sH _ _ hD
  refine ⟨?_,?_⟩
  ·rw [List.length_map,List.length_map]
   exact Nat.lt_of_le_of_lt (List.length_filter_le _ _) (Nat.lt_of_le_of_lt (by simp; omega) (Nat.lt_trans hl (by decide)))
  by_cases hlt:i < zs.length
  ·refine .inr ⟨⟨zs,zs[i],aO.of hD',by simp [hlt]⟩,fun y H2 hy=>?_⟩
   obtain ⟨rfl,hy⟩:=hy
   obtain ⟨t,et,tr⟩:=bJ hz (hy zs (aO.of hD'))
   obtain ⟨a,pr,nu,rfl,ha,hpr,hnu⟩:=tr.keep (aA.of sH)
   have esn:ts.take (i + 1)=ts.take i++[t]:=by rw [List.take_add_one,et]; rfl
   refine ⟨a,_,rfl,bc.of ha,rfl,_,_,rfl,_,_,rfl,rfl,?_⟩
   refine ⟨_,rfl,!t.1.isEmpty,.inr (.inl ⟨_,bc.of hpr,by simp⟩),?_⟩
   cases hb:t.1.isEmpty with
   | false =>
     have ne:t.1≠[]:=by intro z; rw [z] at hb; cases hb
     refine br ⟨_,rfl,_,rfl,pr,_,-1,_,rfl,rfl,bc.of hpr,tD ne,_,_,rfl,rfl,zs.length - (i + 1),by omega,rfl,hlt,sH,?_,_,_,rfl⟩
     rw [esn,List.filter_append]
     simp [hb,lastP]
   | true =>
     refine bx ⟨zs.length - (i + 1),by omega,rfl,hlt,sH,?_,_,_,rfl⟩
     rw [esn,List.filter_append]
     simp [hb]
  ·have ei:i=zs.length:=by omega
   subst ei
   refine .inl ⟨⟨zs,aO.of hD',Nat.le_refl _⟩,fun L hL=>?_⟩
   rw [zl,List.take_length]
   refine ⟨L,_,.int 0,rfl,rfl,aO.of ac,?_⟩
   have q':=q _ (fun b u z=>by rw [al (ap (sH _ _ z) hL)]; exact sH _ _ z:au H (upd H' L (.lst (((ts.filter fun t=>!t.1.isEmpty).map lastP).map V.int))))
   unfold ay at q'
   show Q _ (upd H' L (.lst (((ts.filter fun t=>!t.1.isEmpty).map lastP).map V.int)))
   generalize upd H' L (.lst (((ts.filter fun t=>!t.1.isEmpty).map lastP).map V.int))=H9 at q' ⊢
   generalize Mx.jd none ((ts.filter fun t=>!t.1.isEmpty).map lastP)=ob at q' ⊢
   cases ob <;> exact q'
end
noncomputable abbrev vz:Stmt:=aY 16
noncomputable def bitB:V->Bool
 | .int i=>decide (0≤i)&&decide (i≤1)
 | _=>false
noncomputable def qW:Option (List V)->Bool
 | none=>false
 | some xs=>xs.all bitB
noncomputable def spBits:Sp:=fun vs H Q _=>∃ x o,vs=[x]∧PX H x o∧∀ H',au H H'->Q (.bl (qW o)) H'
theorem z9:FnScope ["thing"] ["thing"] (aj vz):=⟨rfl,rfl,rfl,by decide +kernel,rfl,by decide +kernel,by decide +kernel⟩
section
variable {P:Program}{w:World}{K:PySem.W.Frag}{mg:Str->Option Value}{base:Heap}
theorem yw {f fw:Addr}{fd fdw:FuncData}(F:Fun K "is_row_of_bits" "is_row_of_bits" vz f fd)(m_isinstance:mg "isinstance"=none)(m_tuple:mg "tuple"=none)(m_all:mg "all"=none)
 (FW:FnOk P w K mg base (aU P w) 1 fw fdw ["thing"] spWhole)(bW:L2.ax K fdw ["thing"] [])(mW:mg "is_whole"=some (.ref fw))(kW:keepIn K (.ref fw)=true):FnOk P w K mg base (aU P w) 2 f fd ["thing"] spBits:=by
 refine F.okN z9 (fun vs H Q E h=>?_) (fun cdv A outer s H vs Q E hr h=>?_)
 ·obtain ⟨x,o,rfl,_⟩:=h
  rfl
 ·obtain ⟨x,o,rfl,px,q⟩:=h
  have hr1:Room 1 _:=hr.mono (by decide)
  refine ⟨_,am (av (dL (ar aN (by rfl) m_isinstance (by rfl) (@ag _ _ _ _ _ (pv 0) (@ag _ _ _ _ _ (ck (by rfl) m_tuple (by rfl) (show aB (.ty "tuple") (.type "tuple") from rfl)) ad rfl) rfl))
   (eO (ar (fU rfl) (by rfl) m_all (by rfl) (@ag _ _ _ _ _ (cg (N:=["bit"]) (nl:=1) (js:=[]) (osc:=aj vz) ⟨rfl,rfl,by decide +kernel,by decide +kernel,by decide +kernel,rfl,.nil,by decide +kernel⟩ rfl
    (iO (pv 0))
    (fun C fp s H=>aE (i:=0) (by show (["bit"]:List Str).Nodup; decide +kernel) rfl (Or.inl rfl) (Or.inr rfl))
    (fun C fp s H=>cL)
    (fun C fp s H=>(dL (aq FW hr1 (by rfl) mW kW bW .nil ae (@ag _ _ _ _ _ (pv 0) ad rfl)) (eO (ky kh kh ah (pv 0) ah))))) ad rfl))))),?_⟩
  cases px with
  | @no x T th ne =>
    refine ⟨_,rfl,x,.ty "tuple",_,_,_,rfl,rfl,th.ty,th.isTup,_,rfl,?_⟩
    rw [decide_eq_false ne]
    exact bx (q _ (au.refl _))
  | @tup a xs ha hl hth =>
    refine ⟨_,rfl,.ref a,.ty "tuple",_,_,_,rfl,rfl,.of (.tup ha),rfl,_,rfl,br ?_⟩
    refine ⟨_,rfl,a,rfl,⟨xs,bc.of ha⟩,?_⟩
    refine ⟨fun i m ys σ' H'=>m=xs.length - i∧i≤xs.length∧ys=((xs.take i).map bitB).map V.bl∧H=H'∧∃ o,σ'=[o],⟨xs.length,by simp,Nat.zero_le _,by simp,rfl,none,rfl⟩,?_⟩
    rintro i m ys σ' H' ⟨rfl,hi,rfl,rfl,o,rfl⟩
    refine ⟨Nat.lt_of_le_of_lt (by simp; omega) (Nat.lt_trans hl (by decide)),?_⟩
    by_cases hlt:i < xs.length
    ·refine .inr ⟨⟨xs,xs[i],bc.of ha,by simp [hlt]⟩,fun y H2 hy=>?_⟩
     obtain ⟨rfl,hy⟩:=hy
     have ey:=hy xs (bc.of ha)
     obtain ⟨T,th⟩:=hth y (List.mem_of_getElem? ey)
     have e2:xs.take (i + 1)=xs.take i++[y]:=by
      rw [List.take_add_one,ey]; rfl
     have done:∀ b,b=bitB y->∃ m',m' < xs.length - i∧m'=xs.length - (i + 1)∧i + 1≤xs.length∧((xs.take i).map bitB).map V.bl++[V.bl b]=((xs.take (i + 1)).map bitB).map V.bl∧H2=H2∧∃ o,([some y]:St)=[o]:=fun b hb =>
      ⟨xs.length - (i + 1),by omega,rfl,hlt,by rw [e2,hb]; simp,rfl,_,rfl⟩
     dsimp only [tYes,bD]
     refine br ⟨_,rfl,y,T,rfl,th,_,rfl,?_⟩
     cases e:cB y with
     | false =>
       have z:bitB y=false:=by cases y <;> first | rfl | cases e
       exact bx (done false z.symm)
     | true =>
       have z1:∃ n,y = .int n:=by cases y <;> first | exact ⟨_,rfl⟩ | cases e
       obtain ⟨n,rfl⟩:=z1
       refine br ⟨_,rfl,_,_,rfl,rfl,_,rfl,?_⟩
       refine b7 (fun h=>?_) (fun h=>?_)
       ·have h':decide (0≤n)=true:=h
        exact ⟨_,_,rfl,rfl,done _ (by show _=(decide (0≤n)&&decide (n≤1)); rw [h',Bool.true_and])⟩
       ·have h':decide (0≤n)=false:=by simpa using h
        exact done false (by show _=(decide (0≤n)&&decide (n≤1)); rw [h',Bool.false_and])
    ·have ei:i=xs.length:=by omega
     subst ei
     refine .inl ⟨⟨xs,bc.of ha,Nat.le_refl _⟩,fun D hD=>?_⟩
     rw [List.take_length]
     refine ⟨D,_,xs.map bitB,rfl,aO.of ac,jH _,?_⟩
     have z:(xs.map bitB).all id=qW (some xs):=by rw [List.all_map]; rfl
     rw [z]
     exact q _ (ak hD)
end
noncomputable abbrev qF:Stmt:=aY 15
inductive LX (H:Hp):V->Option (List V)->Prop where
 | no {x:V}{T:String}:Th H x T->T ≠ "list"->LX H x none
 | lst {a:Addr}{xs:List V}:H a=some (.lst xs)->xs.length < 4000->(∀ y∈xs,∃ T,Th H y T)->LX H (.ref a) (some xs)
theorem Th.isLst {K:Frag}{H:Hp}{x:V}{T:String}(h:Th H x T):kitOne K (.type T) (.type "list")=some (decide (T="list")):=by cases h <;> rfl
noncomputable def jW:Option (List V)->Bool
 | none=>false
 | some xs=>xs.all aS&&decide xs.Nodup
theorem jr {xs:List V}(h:xs.all aS=true):∃ ns:List Int,xs=ns.map V.int:=by
 induction xs with
 | nil=>exact ⟨[],rfl⟩
 | cons x xs ih =>
   rw [List.all_cons,Bool.and_eq_true] at h
   obtain ⟨ns,rfl⟩:=ih h.2
   have:∃ n,x=V.int n:=by
    have:=h.1
    cases x <;> first | exact ⟨_,rfl⟩ | cases this
   obtain ⟨n,rfl⟩:=this
   exact ⟨n :: ns,rfl⟩
theorem dD {ns:List Int}:(ns.map V.int).Nodup ↔ ns.Nodup:=by
 unfold List.Nodup
 rw [List.pairwise_map]
 constructor
 ·intro h; exact h.imp fun h z=>h (by rw [z])
 ·intro h; exact h.imp fun h z=>h (by injection z)
noncomputable def spOrder:Sp:=fun vs H Q _=>∃ x o,vs=[x]∧LX H x o∧∀ H',au H H'->Q (.bl (jW o)) H'
theorem xN:FnScope ["thing"] ["thing"] (aj qF):=⟨rfl,rfl,rfl,by decide +kernel,rfl,by decide +kernel,by decide +kernel⟩
section
variable {P:Program}{w:World}{K:PySem.W.Frag}{mg:Str->Option Value}{base:Heap}
theorem xk {f fp:Addr}{fd fdp:FuncData}(F:Fun K "is_order" "is_order" qF f fd)(m_isinstance:mg "isinstance"=none)(m_list:mg "list"=none)(m_all:mg "all"=none)(m_len:mg "len"=none)(m_set:mg "set"=none)
 (FP:FnOk P w K mg base (aU P w) 2 fp fdp ["thing"] spPlace)(bP:L2.ax K fdp ["thing"] [])(mP:mg "is_place"=some (.ref fp))(kP:keepIn K (.ref fp)=true):FnOk P w K mg base (aU P w) 3 f fd ["thing"] spOrder:=by
 refine F.okN xN (fun vs H Q E h=>?_) (fun cdv A outer s H vs Q E hr h=>?_)
 ·obtain ⟨x,o,rfl,_⟩:=h
  rfl
 ·obtain ⟨x,o,rfl,px,q⟩:=h
  have hr2:Room 2 _:=hr.mono (by decide)
  refine ⟨_,(ai (a7 (PW.pt (dQ (bY (bw (ar aN (by rfl) m_isinstance (by rfl) (@ag _ _ _ _ _ (pv 0) (@ag _ _ _ _ _ (ck (by rfl) m_list (by rfl) (show aB (.ty "list") (.type "list") from rfl)) ad rfl) rfl)))) (cN (bY (bw (ar (fU rfl) (by rfl) m_all (by rfl) (@ag _ _ _ _ _ (cg (N:=["place"]) (nl:=1) (js:=[]) (osc:=aj qF) ⟨rfl,rfl,by decide +kernel,by decide +kernel,by decide +kernel,rfl,.nil,by decide +kernel⟩ rfl
   (cK (pv 0))
   (fun C fp s H=>aE (i:=0) (by show (["place"]:List Str).Nodup; decide +kernel) rfl (Or.inl rfl) (Or.inr rfl))
   (fun C fp s H=>cL)
   (fun C fp s H=>(aq FP hr2 (by rfl) mP kP bP .nil ae (@ag _ _ _ _ _ (pv 0) ad rfl)))) ad rfl))))))) (am (av c9)) aC)
   (am (av (@cX _ _ _ _ _ _ _ _ cI (mr (pv 0) rfl (by rfl) m_len (by rfl) m_set) (ar aQ (by rfl) m_len PySem.boot_len (@ag _ _ _ _ _ (pv 0) ad rfl)) (aG _))))),?_⟩
  cases px with
  | @no x T th ne =>
    refine ⟨_,rfl,x,.ty "list",_,_,_,rfl,rfl,th.ty,th.isLst,_,rfl,?_⟩
    rw [decide_eq_false ne]
    exact br (br (q _ (au.refl _)))
  | @lst a xs ha hl hth =>
    refine ⟨_,rfl,.ref a,.ty "list",_,_,_,rfl,rfl,.of (.lst ha),rfl,_,rfl,bx ?_⟩
    refine ⟨_,rfl,a,rfl,⟨xs,aO.of ha⟩,?_⟩
    refine ⟨fun i m ys σ' H'=>m=xs.length - i∧i≤xs.length∧ys=((xs.take i).map aS).map V.bl∧H=H'∧∃ o,σ'=[o],⟨xs.length,by simp,Nat.zero_le _,by simp,rfl,none,rfl⟩,?_⟩
    rintro i m ys σ' H' ⟨rfl,hi,rfl,rfl,o,rfl⟩
    refine ⟨Nat.lt_of_le_of_lt (by simp; omega) (Nat.lt_trans hl (by decide)),?_⟩
    by_cases hlt:i < xs.length
    ·refine .inr ⟨⟨xs,xs[i],aO.of ha,by simp [hlt]⟩,fun y H2 hy=>?_⟩
     obtain ⟨rfl,hy⟩:=hy
     have ey:=hy xs (aO.of ha)
     obtain ⟨T,th⟩:=hth y (List.mem_of_getElem? ey)
     dsimp only [tYes,bD]
     refine br ⟨_,rfl,y,T,rfl,th,xs.length - (i + 1),by omega,rfl,hlt,?_,rfl,_,rfl⟩
     have e2:xs.take (i + 1)=xs.take i++[y]:=by
      rw [List.take_add_one,ey]; rfl
     rw [e2]
     simp
    ·have ei:i=xs.length:=by omega
     subst ei
     refine .inl ⟨⟨xs,aO.of ha,Nat.le_refl _⟩,fun D hD=>?_⟩
     rw [List.take_length]
     refine ⟨D,_,xs.map aS,rfl,aO.of ac,jH _,_,rfl,?_⟩
     have sD:au H (upd H D (.lst ((xs.map aS).map V.bl))):=ak hD
     cases hp:(xs.map aS).all id with
     | false =>
       have z:jW (some xs)=false:=by
        show (xs.all aS&&decide xs.Nodup)=_
        have:xs.all aS=false:=by rw [← hp,List.all_map]; rfl
        rw [this,Bool.false_and]
       rw [z] at q
       exact br (q _ sD)
     | true =>
       refine bx ?_
       have hp':xs.all aS=true:=by rw [← hp,List.all_map]; rfl
       have z:jW (some xs)=decide xs.Nodup:=by
        show (xs.all aS&&decide xs.Nodup)=_
        rw [hp',Bool.true_and]
       rw [z] at q
       obtain ⟨ns,rfl⟩:=jr hp'
       have ha1:=sD _ _ ha
       refine ⟨_,rfl,a,ns,rfl,aO.of ha1,by rw [List.length_map] at hl; exact hl,_,rfl,a,_,rfl,.inl (aO.of ha1),rfl,?_⟩
       rw [List.length_map]
       have e:decide (V.int (iy ns:Int)=V.int (ns.length:Int))=decide (ns.map V.int).Nodup:=by
        by_cases nd:ns.Nodup
        ·rw [decide_eq_true (dD.mpr nd),(jm ns).mpr nd]; simp
        ·rw [decide_eq_false (fun z=>nd (dD.mp z))]
         have:iy ns≠ns.length:=fun z=>nd ((jm ns).mp z)
         have:¬ ((iy ns:Nat):Int)=(ns.length:Int):=by omega
         simp [this]
       rw [e]
       exact q _ sD
end
noncomputable abbrev vm:Stmt:=aY 31
noncomputable def su (C CF:Addr):Sp:=fun vs H Q _=>∃ (fl dxf l:Addr)(p:Int)(ys:List V)(ts:List Tm)(m:Nat),vs=[.ref fl,.ref l]∧H fl=some (.ins CF dxf (gu p))∧FP p∧H l=some (.lst ys)∧a8 H ys ts∧ts.length < 64 ∧
 (∀ t∈ts,Gn p m t.2)∧(m + 1) * ts.length + 7≤4000∧m≤4000∧∀ H' s dx D zs,au H H'->H' s=some (.ins C dx (n5 fl D))->H' D=some (.lst zs)->a8 H' zs (cC (aV p ts))->Q (.ref s) H'
theorem rA:FnScope ["field","terms","one"] ["field","terms"] (aj vm):=⟨rfl,rfl,rfl,by decide +kernel,rfl,by decide +kernel,by decide +kernel⟩
section
variable {P:Program}{w:World}{K:PySem.W.Frag}{mg:Str->Option Value}{base:Heap}
theorem v6 {f fg fI C CF:Addr}{fd fdg fdI:FuncData}(F:Fun K "built" "built" vm f fd)(c:SumK K mg C)(M:Mk K C fI)
 (FI:FnOk P w K mg base (aU P w) 6 fI fdI ["self","field","terms"] (mE C CF))(bI:L2.ax K fdI ["self","field","terms"] [Value.none])
 (FG:FnOk P w K mg base (aU P w) 5 fg fdg ["field","terms"] (m9 CF))(bG:L2.ax K fdg ["field","terms"] [])(mG:mg "gathered"=some (.ref fg))(kG:keepIn K (.ref fg)=true):
 FnOk P w K mg base (aU P w) 8 f fd ["field","terms"] (su C CF):=by
 refine F.okN rA (fun vs H Q E h=>?_) (fun cdv A outer s H vs Q E hr h=>?_)
 ·obtain ⟨fl,dxf,l,p,ys,ts,m,rfl,_⟩:=h
  rfl
 ·obtain ⟨fl,dxf,l,p,ys,ts,m,rfl,hf,hp,hl,ht,h64,hG,hm,hm2,q⟩:=h
  have hr5:Room 5 _:=hr.mono (by decide)
  refine ⟨_,ai (@aK _ _ 2 _ _ _ _ rA.nd rfl (Or.inl rfl) (nw (dvs:=[.non]) M FI hr (by rfl) c.mgC bI (.cons rfl .nil) ae (@ag _ _ _ _ _ (pv 0) ad rfl)) rfl (Or.inl rfl))
   (ai (nh (pv 2) (aq FG hr5 (by rfl) mG kG bG .nil ae (@ag _ _ _ _ _ (pv 0) (@ag _ _ _ _ _ (pv 1) ad rfl) rfl)) rfl)
   (am (av (pv 2)))),?_⟩
  refine ⟨_,rfl,fun x dx hx hdx ne=>?_⟩
  have s0:∀ b u,H b=some u->upd (upd H dx (.own x)) x (.ins C dx []) b=some u:=fun b u e=>by
   rw [al (ap e hx),al (ap e hdx)]; exact e
  refine ⟨x,dx,fl,dxf,p,.non,[],0,rfl,ac,s0 _ _ hf,hp,.inl ⟨rfl,rfl⟩,by decide,(fun t ht=>nomatch ht),by decide,by decide,fun H1 D0 zs0 sb hs1 hD0 hz0=>⟨rfl,?_⟩⟩
  have s1:au H H1:=fun b u e=>sb _ _ (s0 _ _ e) (ap e hx)
  refine ⟨_,rfl,_,rfl,fl,dxf,l,p,ys,ts,m,rfl,s1 _ _ hf,hp,s1 _ _ hl,a8.keep ht (aA.of s1),h64,hG,hm,hm2,fun H2 D zs s2 hD hz=>?_⟩
  have hs2:=s2 _ _ hs1
  refine ⟨_,rfl,x,C,dx,_,rfl,hs2,c.cl,c.nT,(by show 2 < 1000; decide),?_⟩
  have nD:D≠x:=fun z=>by rw [z,hs2] at hD; cases hD
  refine ⟨_,rfl,q _ x dx D zs (fun b u e=>?_) ac (by rw [al nD]; exact hD) (a8.keep hz (aA.upd fun xs z=>by rw [hs2] at z; cases z))⟩
  rw [al (ap e hx)]
  exact s2 _ _ (s1 _ _ e)
end
noncomputable abbrev qz:Stmt:=aY 48
theorem sS:∀ {ks:List Int},ks.Pairwise (· < ·)->iZ (ks.map V.int)=true
 | [],_=>rfl
 | [k],_=>rfl
 | a :: b :: ks,h=>by
   obtain ⟨h1,h2⟩:=List.pairwise_cons.mp h
   have ih:=sS h2
   unfold iZ at ih ⊢
   have e:((a :: b :: ks).map V.int).zip (((a :: b :: ks).map V.int).drop 1)=(V.int a,V.int b):: (((b :: ks).map V.int).zip (((b :: ks).map V.int).drop 1)):=rfl
   rw [e,List.all_cons,ih,Bool.and_true]
   exact decide_eq_true (h1 b List.mem_cons_self)
theorem zF {ks:List Int}(h:ks.Pairwise (· < ·))(hb:∀ k∈ks,0≤k∧k < 60)(hl:ks.length < 4000):Bb ks:=by
 refine ⟨?_,hl⟩
 show ((ks.map V.int).all aS&&iZ (ks.map V.int))=true
 rw [sS h,Bool.and_true,List.all_map,List.all_eq_true]
 intro k hk
 obtain ⟨h0,h1⟩:=hb k hk
 show (decide (0≤k)&&decide (k < 60))=true
 rw [decide_eq_true h0,decide_eq_true h1]
 rfl
noncomputable def spLProd:Sp:=fun vs H Q _=>∃ (r:Addr)(many share:Int),vs=[.ref r,.int many,.int share]∧aH H r∧0≤many∧many≤60∧0 < share∧share < 1000 ∧
 ∀ (a:Addr)(ks:List Int)(H':Hp),ks.Pairwise (· < ·)->(∀ k∈ks,0≤k∧k < many)->ks.length≤60->H' a=some (.tup (ks.map V.int))->aH H' r->SameBut r H H'->Q (.ref a) H'
theorem yk:FnScope ["_law_room_here","_law_many","_law_share"] ["_law_room_here","_law_many","_law_share"] (aj qz):=⟨rfl,rfl,rfl,by decide +kernel,rfl,by decide +kernel,by decide +kernel⟩
section
variable {P:Program}{w:World}{K:PySem.W.Frag}{mg:Str->Option Value}{base:Heap}
theorem wA {f ft:Addr}{fd fdt:FuncData}(F:Fun K "_law_product" "_law_product" qz f fd)(m_tuple:mg "tuple"=none)(m_range:mg "range"=none)
 (FT:FnOk P w K mg base (aU P w) 1 ft fdt ["_law_room_here","_law_many"] spTake)(bT:L2.ax K fdt ["_law_room_here","_law_many"] [])(mT:mg "_law_take"=some (.ref ft))(kT:keepIn K (.ref ft)=true):
 FnOk P w K mg base (aU P w) 2 f fd ["_law_room_here","_law_many","_law_share"] spLProd:=by
 refine F.okN yk (fun vs H Q E h=>?_) (fun cdv A outer s H vs Q E hr h=>?_)
 ·obtain ⟨r,many,share,rfl,_⟩:=h
  rfl
 ·obtain ⟨r,many,share,rfl,hR,m0,m1,s0,s1,q⟩:=h
  have hr1:Room 1 _:=hr.mono (by decide)
  refine ⟨_,(am (av (b8 cE (by rfl) m_tuple (by rfl) (@ag _ _ _ _ _ (cg (N:=["_law_place","_law_room_here","_law_share"]) (nl:=1) (js:=[0,2]) (osc:=aj qz) ⟨rfl,rfl,by decide +kernel,by decide +kernel,by decide +kernel,rfl,(.cons ⟨rfl,by decide +kernel⟩ (.cons ⟨rfl,by decide +kernel⟩ .nil)),by decide +kernel⟩ rfl
   (eu (by rfl) m_range (@ag _ _ _ _ _ (pv 1) ad rfl))
   (fun C fp s H=>aE (i:=0) (by show (["_law_place","_law_room_here","_law_share"]:List Str).Nodup; decide +kernel) rfl (Or.inl rfl) (Or.inr rfl))
   (fun C fp s H=>(dY (@aF _ _ _ _ _ _ _ _ cI (aq FT hr1 (by rfl) mT kT bT .nil ae (@ag _ _ _ _ _ (pv 1) (@ag _ _ _ _ _ (pv 2) ad rfl) rfl)) ah (aG _))))
   (fun C fp s H=>(pv 0))) ad rfl)))),?_⟩
  refine ⟨_,rfl,many,rfl,by omega,by omega,?_⟩
  refine ⟨fun i m xs σ' H'=>m=many.toNat - i∧i≤many.toNat∧(∃ ks:List Int,xs=ks.map V.int∧ks.Pairwise (· < ·)∧(∀ k∈ks,0≤k∧k < (i:Int))∧ks.length≤i)∧aH H' r∧SameBut r H H'∧∃ o,σ'=[o,some (.ref r),some (.int share)],
   ⟨many.toNat,by simp,Nat.zero_le _,⟨[],rfl,.nil,fun k h=>(nomatch h),Nat.le_refl _⟩,hR,fun _ _ e _=>e,none,rfl⟩,?_⟩
  rintro i m xs σ' H' ⟨rfl,hi,⟨ks,rfl,hpw,hks,hkl⟩,⟨l,x,hR',x0,x1⟩,sb,o,rfl⟩
  refine ⟨by rw [List.length_map]; exact Nat.lt_of_le_of_lt (Nat.le_trans hkl (show i≤60 by omega)) (by decide),?_⟩
  by_cases hlt:i < many.toNat
  ·refine .inr ⟨hlt,fun y H2 hy=>?_⟩
   obtain ⟨rfl,rfl⟩:=hy
   refine ⟨_,rfl,_,rfl,r,l,x,share,rfl,hR',x0,x1,s0,by omega,fun z l2 r2 z0 z1 g0 g1=>?_⟩
   have sb2:SameBut r H (upd H2 r (.lst [.int l2,.int r2])):=sb.trans SameBut.upd
   have R2:aH (upd H2 r (.lst [.int l2,.int r2])) r:=⟨l2,r2,ac,g0,g1⟩
   refine ⟨rfl,_,rfl,?_⟩
   refine b7 (fun h=>?_) (fun h=>?_)
   ·refine ⟨_,rfl,many.toNat - (i + 1),by omega,rfl,hlt,⟨ks++[0 + (i:Int)],by simp,?_,?_,by simp; omega⟩,R2,sb2,_,rfl⟩
    ·refine List.pairwise_append.mpr ⟨hpw,List.pairwise_singleton _ _,fun a ha b hb=>?_⟩
     have:b=0 + (i:Int):=by simpa using hb
     have:=(hks a ha).2
     omega
    ·intro k hk
     rcases List.mem_append.mp hk with hk | hk
     ·have:=hks k hk; omega
     ·have:k=0 + (i:Int):=by simpa using hk
      omega
   ·exact ⟨many.toNat - (i + 1),by omega,rfl,hlt,⟨ks,rfl,hpw,fun k hk=>by have:=hks k hk; omega,by omega⟩,R2,sb2,_,rfl⟩
  ·have ei:i=many.toNat:=by omega
   refine .inl ⟨by show many.toNat≤i; omega,fun D hD=>?_⟩
   refine ⟨D,_,rfl,.inl ⟨aO.of ac,fun a ha=>?_⟩⟩
   have nD:r≠D:=ap hR' hD
   have na:r≠a:=ap (show upd H' D (.lst (ks.map V.int)) r=some (.lst [.int l,.int x]) by rw [al nD]; exact hR') ha
   refine q a ks _ hpw (fun k hk=>by have:=hks k hk; omega) (by omega) ac ⟨l,x,by rw [al na,al nD]; exact hR',x0,x1⟩ fun b u e nb=>?_
   have e1:=sb b u e nb
   have e2:upd H' D (.lst (ks.map V.int)) b=some u:=by rw [al (ap e1 hD)]; exact e1
   rw [al (ap e2 ha)]
   exact e2
end
noncomputable abbrev rD:Stmt:=aY 49
noncomputable def BD (p many:Int)(t:Tm):Prop:=Gn p 45 t.2∧t.1.Pairwise (· < ·)∧(∀ k∈t.1,0≤k∧k < many)∧t.1.length≤60
noncomputable def spLTerms:Sp:=fun vs H Q _=>∃ (r:Addr)(p many most:Int),vs=[.ref r,.int p,.int many,.int most]∧aH H r∧FP p∧0≤many∧many≤60∧0≤most∧most≤40 ∧
 ∀ (D:Addr)(ys:List V)(ts:List Tm)(H':Hp),H' D=some (.lst ys)->a8 H' ys ts->(ts.length:Int)≤most->(∀ t∈ts,BD p many t)->aH H' r->SameBut r H H'->Q (.ref D) H'
theorem aH.keepT {H H':Hp}{r:Addr}(h:aH H r)(s:SameBut r H H'):aA H H':=fun b xs e=>s b _ e fun z=>by
 obtain ⟨l,x,e',_⟩:=h
 rw [z,e'] at e
 cases e
theorem gT:FnScope ["_law_room_here","_law_prime_here","_law_many","_law_most","_law_found","_law_k","_law_product_here"] ["_law_room_here","_law_prime_here","_law_many","_law_most"] (aj rD):=⟨rfl,rfl,rfl,by decide +kernel,rfl,by decide +kernel,by decide +kernel⟩
section
variable {P:Program}{w:World}{K:PySem.W.Frag}{mg:Str->Option Value}{base:Heap}
theorem uk {f ft fp fn:Addr}{fd fdt fdp fdn:FuncData}(F:Fun K "_law_terms" "_law_terms" rD f fd)(m_range:mg "range"=none)
 (FT:FnOk P w K mg base (aU P w) 1 ft fdt ["_law_room_here","_law_many"] spTake)(bT:L2.ax K fdt ["_law_room_here","_law_many"] [])(mT:mg "_law_take"=some (.ref ft))(kT:keepIn K (.ref ft)=true)
 (FP:FnOk P w K mg base (aU P w) 2 fp fdp ["_law_room_here","_law_many","_law_share"] spLProd)(bP:L2.ax K fdp ["_law_room_here","_law_many","_law_share"] [])(mP:mg "_law_product"=some (.ref fp))(kP:keepIn K (.ref fp)=true)
 (FN:FnOk P w K mg base (aU P w) 2 fn fdn ["_law_room_here","_law_prime_here"] spNumber)(bN:L2.ax K fdn ["_law_room_here","_law_prime_here"] [])(mN:mg "_law_number"=some (.ref fn))(kN:keepIn K (.ref fn)=true):
 FnOk P w K mg base (aU P w) 3 f fd ["_law_room_here","_law_prime_here","_law_many","_law_most"] spLTerms:=by
 refine F.okN gT (fun vs H Q E h=>?_) (fun cdv A outer s H vs Q E hr h=>?_)
 ·obtain ⟨r,p,many,most,rfl,_⟩:=h
  rfl
 ·obtain ⟨r,p,many,most,rfl,hR,hp,m0,m1,n0,n1,q⟩:=h
  have hr2:Room 2 _:=hr.mono (by decide)
  have hr1:Room 1 _:=hr.mono (by decide)
  refine ⟨_,(ai (@aK _ _ 4 _ _ _ _ gT.nd rfl (Or.inl rfl) (@bq _ _ _ _ ad) rfl (Or.inl rfl))
   (ai (fV PassesOwn.never rfl (eu (by rfl) m_range (@ag _ _ _ _ _ (aq FT hr1 (by rfl) mT kT bT .nil ae (@ag _ _ _ _ _ (pv 0) (@ag _ _ _ _ _ (@az _ _ _ _ _ _ _ _ cr (pv 3) ah) ad rfl) rfl)) ad rfl)) (aE (i:=5) gT.nd rfl (Or.inl rfl))
   (ai (@aK _ _ 6 _ _ _ _ gT.nd rfl (Or.inl rfl) (aq FP hr2 (by rfl) mP kP bP .nil ae (@ag _ _ _ _ _ (pv 0) (@ag _ _ _ _ _ (pv 2) (@ag _ _ _ _ _ (@az _ _ _ _ _ _ _ _ cr ah (aq FT hr1 (by rfl) mT kT bT .nil ae (@ag _ _ _ _ _ (pv 0) (@ag _ _ _ _ _ ah ad rfl) rfl))) ad rfl) rfl) rfl)) rfl (Or.inl rfl))
   (am (ny (og PySem.F.plainAttrs_list PySem.F.slot_list_append PySem.F.type_list_append lO (pv 4) (@ag _ _ _ _ _ (@bH _ _ _ _ _ (@ag _ _ _ _ _ (pv 6) (@ag _ _ _ _ _ (aq FN hr2 (by rfl) mN kN bN .nil ae (@ag _ _ _ _ _ (pv 0) (@ag _ _ _ _ _ (pv 1) ad rfl) rfl)) ad rfl) rfl)) ad rfl))))))
   (am (av (pv 4))))),?_⟩
  refine ⟨Nat.zero_le _,fun D hD=>?_⟩
  obtain ⟨l0,x0,hR0,a0,a1⟩:=hR
  have nDr:r≠D:=ap hR0 hD
  have hR1:upd H D (.lst []) r=some (.lst [.int l0,.int x0]):=by rw [al nDr]; exact hR0
  refine ⟨_,rfl,_,rfl,_,_,rfl,rfl,r,l0,x0,most + 1,rfl,hR1,a0,a1,by omega,by omega,fun z l1 x1 z0 z1 b0 b1=>?_⟩
  have sb1:SameBut r H (upd (upd H D (.lst [])) r (.lst [.int l1,.int x1])):=fun b u e nb=>by rw [al nb,al (ap e hD)]; exact e
  have R1:aH (upd (upd H D (.lst [])) r (.lst [.int l1,.int x1])) r:=⟨l1,x1,ac,b0,b1⟩
  have eD1:upd (upd H D (.lst [])) r (.lst [.int l1,.int x1]) D=some (.lst []):=by rw [al (Ne.symm nDr)]; exact ac
  generalize upd (upd H D (.lst [])) r (.lst [.int l1,.int x1])=H1 at sb1 R1 eD1 ⊢
  refine ⟨z,rfl,by omega,by omega,?_⟩
  refine ⟨fun i m σ' H'=>m=z.toNat - i∧i≤z.toNat∧aH H' r∧SameBut r H H'∧(∃ ys ts,H' D=some (.lst ys)∧a8 H' ys ts∧ts.length=i∧∀ t∈ts,BD p many t)∧∃ o5 o6,σ'=[some (.ref r),some (.int p),some (.int many),some (.int most),some (.ref D),o5,o6],
   ⟨z.toNat,by simp,Nat.zero_le _,R1,sb1,⟨[],[],eD1,.nil,rfl,fun t h=>(nomatch h)⟩,none,none,rfl⟩,?_⟩
  rintro i m σ' H' ⟨rfl,hi,hR',sb',⟨ys,ts,eD,ht,tl,tg⟩,o5,o6,rfl⟩
  by_cases hlt:i < z.toNat
  ·refine .inr ⟨hlt,fun σ' H'=>aH H' r∧SameBut r H H'∧(∃ ys ts,H' D=some (.lst ys)∧a8 H' ys ts∧ts.length=i + 1∧∀ t∈ts,BD p many t)∧∃ o5 o6,σ'=[some (.ref r),some (.int p),some (.int many),some (.int most),some (.ref D),o5,o6],?_,fun y H2 hy=>?_⟩
   ·rintro σ' H' ⟨h1,h2,h3,h4⟩
    exact ⟨z.toNat - (i + 1),by omega,rfl,hlt,h1,h2,h3,h4⟩
   ·obtain ⟨rfl,rfl⟩:=hy
    obtain ⟨l2,x2,e2,c0,c1⟩:=hR'
    refine ⟨_,rfl,_,rfl,_,rfl,r,l2,x2,2,rfl,e2,c0,c1,by decide,by decide,fun u l3 x3 u0 u1 d0 d1=>?_⟩
    have R3:aH (upd H2 r (.lst [.int l3,.int x3])) r:=⟨l3,x3,ac,d0,d1⟩
    have sb3:SameBut r H2 (upd H2 r (.lst [.int l3,.int x3])):=SameBut.upd
    generalize upd H2 r (.lst [.int l3,.int x3])=H3 at R3 sb3 ⊢
    refine ⟨_,_,rfl,rfl,r,many,2 + u,rfl,R3,m0,m1,by omega,by omega,fun a ks H4 hpw hks hkl ha R4 sb4=>?_⟩
    have eD4:H4 D=some (.lst ys):=sb4 _ _ (sb3 _ _ eD (Ne.symm nDr)) (Ne.symm nDr)
    have k2:aA H2 H3:=aH.keepT ⟨l2,x2,e2,c0,c1⟩ sb3
    have k3:aA H3 H4:=R3.keepT sb4
    refine ⟨_,rfl,.inl ⟨rfl,_,aO.of eD4⟩,_,rfl,_,rfl,_,rfl,r,p,rfl,hp,R4,fun an tt bb H5 hn B1 B2 hn5 R5 sb5=>?_⟩
    have k4:aA H4 H5:=R4.keepT sb5
    refine ⟨(by show 2≤sizeLine; decide),fun tu htu=>?_⟩
    have eD5:H5 D=some (.lst ys):=sb5 _ _ eD4 (Ne.symm nDr)
    have sU:au H5 (upd H5 tu (.tup [.ref a,.ref an])):=ak htu
    have eD6:=sU _ _ eD5
    refine ⟨D,ys,.ref tu,rfl,rfl,eD6,?_,?_⟩
    ·rw [ht.length]
     exact Nat.lt_of_le_of_lt (show ts.length≤60 by omega) (by decide)
    have kD:aA (upd H5 tu (.tup [.ref a,.ref an])) (upd (upd H5 tu (.tup [.ref a,.ref an])) D (.lst (ys++[.ref tu]))):=aA.upd fun xs z=>by rw [eD6] at z; cases z
    have kA:aA H2 (upd (upd H5 tu (.tup [.ref a,.ref an])) D (.lst (ys++[.ref tu]))):=((k2.trans k3).trans k4).trans ((aA.of sU).trans kD)
    obtain ⟨l6,x6,e6,f0,f1⟩:=R5
    refine ⟨⟨l6,x6,by rw [al nDr]; exact sU _ _ e6,f0,f1⟩,fun b u e nb=>?_,⟨_,ts++[(ks,tt,bb)],ac,Paired.snoc (a8.keep ht kA) ⟨tu,a,an,rfl,kD _ _ ac,kD _ _ (sU _ _ (k4 _ _ ha)),kD _ _ (sU _ _ hn5)⟩,by simp [tl],fun t h=>?_⟩,_,_,rfl⟩
    ·have nb2:b≠D:=ap e hD
     rw [al nb2]
     exact sU _ _ (sb5 _ _ (sb4 _ _ (sb3 _ _ (sb' _ _ e nb) nb) nb) nb)
    ·rcases List.mem_append.mp h with h | h
     ·exact tg t h
     ·have:t=(ks,tt,bb):=by simpa using h
      subst this
      exact ⟨⟨hn,B1,B2⟩,hpw,hks,hkl⟩
  ·have ei:i=z.toNat:=by omega
   refine .inl ⟨by show z.toNat≤i; omega,?_⟩
   exact ⟨_,rfl,q D ys ts H' eD ht (by omega) tg hR' sb'⟩
end
noncomputable abbrev qT:Stmt:=aY 52
noncomputable def spLFill:Sp:=fun vs H Q _=>∃ (r:Addr)(many:Int),vs=[.ref r,.int many]∧aH H r∧0≤many∧many≤100 ∧
 ∀ (a:Addr)(ks:List Int)(H':Hp),(∀ k∈ks,0≤k∧k≤1)->(ks.length:Int)=many->H' a=some (.tup (ks.map V.int))->aH H' r->SameBut r H H'->Q (.ref a) H'
theorem yA:FnScope ["_law_room_here","_law_many"] ["_law_room_here","_law_many"] (aj qT):=⟨rfl,rfl,rfl,by decide +kernel,rfl,by decide +kernel,by decide +kernel⟩
section
variable {P:Program}{w:World}{K:PySem.W.Frag}{mg:Str->Option Value}{base:Heap}
theorem vg {f ft:Addr}{fd fdt:FuncData}(F:Fun K "_law_filling" "_law_filling" qT f fd)(m_tuple:mg "tuple"=none)(m_range:mg "range"=none)
 (FT:FnOk P w K mg base (aU P w) 1 ft fdt ["_law_room_here","_law_many"] spTake)(bT:L2.ax K fdt ["_law_room_here","_law_many"] [])(mT:mg "_law_take"=some (.ref ft))(kT:keepIn K (.ref ft)=true):
 FnOk P w K mg base (aU P w) 2 f fd ["_law_room_here","_law_many"] spLFill:=by
 refine F.okN yA (fun vs H Q E h=>?_) (fun cdv A outer s H vs Q E hr h=>?_)
 ·obtain ⟨r,many,rfl,_⟩:=h
  rfl
 ·obtain ⟨r,many,rfl,hR,m0,m1,q⟩:=h
  have hr1:Room 1 _:=hr.mono (by decide)
  refine ⟨_,(am (av (b8 cE (by rfl) m_tuple (by rfl) (@ag _ _ _ _ _ (cg (N:=["_law_place","_law_room_here"]) (nl:=1) (js:=[0]) (osc:=aj qT) ⟨rfl,rfl,by decide +kernel,by decide +kernel,by decide +kernel,rfl,(.cons ⟨rfl,by decide +kernel⟩ .nil),by decide +kernel⟩ rfl
   (eu (by rfl) m_range (@ag _ _ _ _ _ (pv 1) ad rfl))
   (fun C fp s H=>aE (i:=0) (by show (["_law_place","_law_room_here"]:List Str).Nodup; decide +kernel) rfl (Or.inl rfl) (Or.inr rfl))
   (fun C fp s H=>cL)
   (fun C fp s H=>(aq FT hr1 (by rfl) mT kT bT .nil ae (@ag _ _ _ _ _ (pv 1) (@ag _ _ _ _ _ ah ad rfl) rfl)))) ad rfl)))),?_⟩
  refine ⟨_,rfl,many,rfl,by omega,by omega,?_⟩
  refine ⟨fun i m xs σ' H'=>m=many.toNat - i∧i≤many.toNat∧(∃ ks:List Int,xs=ks.map V.int∧(∀ k∈ks,0≤k∧k≤1)∧ks.length=i)∧aH H' r∧SameBut r H H'∧∃ o,σ'=[o,some (.ref r)],
   ⟨many.toNat,by simp,Nat.zero_le _,⟨[],rfl,fun k h=>(nomatch h),rfl⟩,hR,fun _ _ e _=>e,none,rfl⟩,?_⟩
  rintro i m xs σ' H' ⟨rfl,hi,⟨ks,rfl,hks,hkl⟩,⟨l,x,hR',x0,x1⟩,sb,o,rfl⟩
  refine ⟨by rw [List.length_map]; exact Nat.lt_of_le_of_lt (show ks.length≤100 by omega) (by decide),?_⟩
  by_cases hlt:i < many.toNat
  ·refine .inr ⟨hlt,fun y H2 hy=>?_⟩
   obtain ⟨rfl,rfl⟩:=hy
   dsimp only [tYes,bD]
   refine br ⟨_,rfl,r,l,x,2,rfl,hR',x0,x1,by decide,by decide,fun z l2 r2 z0 z1 g0 g1=>?_⟩
   refine ⟨many.toNat - (i + 1),by omega,rfl,hlt,⟨ks++[z],by simp,fun k hk=>?_,by simp [hkl]⟩,⟨l2,r2,ac,g0,g1⟩,sb.trans SameBut.upd,_,rfl⟩
   rcases List.mem_append.mp hk with hk | hk
   ·exact hks k hk
   ·have:k=z:=by simpa using hk
    omega
  ·have ei:i=many.toNat:=by omega
   refine .inl ⟨by show many.toNat≤i; omega,fun D hD=>?_⟩
   refine ⟨D,_,rfl,.inl ⟨aO.of ac,fun a ha=>?_⟩⟩
   have nD:r≠D:=ap hR' hD
   have na:r≠a:=ap (show upd H' D (.lst (ks.map V.int)) r=some (.lst [.int l,.int x]) by rw [al nD]; exact hR') ha
   refine q a ks _ hks (by omega) ac ⟨l,x,by rw [al na,al nD]; exact hR',x0,x1⟩ fun b u e nb=>?_
   have e1:=sb b u e nb
   have e2:upd H' D (.lst (ks.map V.int)) b=some u:=by rw [al (ap e1 hD)]; exact e1
   rw [al (ap e2 ha)]
   exact e2
end
noncomputable abbrev nv:Stmt:=aY 51
noncomputable def iG (bs:List Int)(ks:List Int):Bool:=(ks.filter fun k=>bs.getD k.toNat 0 == 0).isEmpty
noncomputable def dF (p:Int)(bs:List Int)(a:Int × Int)(t:Tm):Int × Int:=if iG bs t.1=true then dI p a t.2 else a
noncomputable def bu (p:Int)(bs:List Int)(ts:List Tm):Int × Int:=ts.foldl (dF p bs) (0,1)
theorem eN (p:Int)(bs:List Int)(ts:List Tm)(t:Tm):bu p bs (ts++[t])=dF p bs (bu p bs ts) t:=by
 unfold bu
 rw [List.foldl_append]
 rfl
theorem gH {p:Int}{m:Nat}{bs:List Int}(hp:FP p):∀ (n:Nat)(ts:List Tm),ts.length=n->(∀ t∈ts,Gn p m t.2)->Gn p ((m + 1) * n + 7) (bu p bs ts)
 | 0,ts,hn,_=>by
   have:ts=[]:=List.length_eq_zero_iff.mp hn
   subst this
   show Gn p ((m + 1) * 0 + 7) (0,1)
   refine ⟨⟨(by show (0:Int) < 1; decide),(by show Int.gcd 0 1=1; decide),fun z=>⟨rfl,(by show (0:Int)≤0; decide),?_⟩⟩,?_,?_⟩
   ·have:=(hp.two z).2.1
    show (0:Int) < p
    omega
   ·show (0:Int).natAbs < 2 ^ ((m + 1) * 0 + 7)
    rw [Nat.mul_zero]; decide
   ·show (1:Int).natAbs < 2 ^ ((m + 1) * 0 + 7)
    rw [Nat.mul_zero]; decide
 | n + 1,ts,hn,h=>by
   obtain ⟨ini,t,rfl⟩:∃ ini t,ts=ini++[t]:=by
    have hne:ts≠[]:=by intro z; rw [z] at hn; cases hn
    exact ⟨ts.dropLast,ts.getLast hne,(List.dropLast_concat_getLast hne).symm⟩
   have hl:ini.length=n:=by simpa using hn
   have ih:=gH (bs:=bs) hp n ini hl fun t ht=>h t (List.mem_append_left _ ht)
   have gt:=h t (List.mem_append_right _ (by simp))
   rw [eN]
   have e2:(m + 1) * (n + 1)=(m + 1) * n + (m + 1):=Nat.mul_succ _ _
   unfold dF
   split
   ·have g:=mt hp ih gt (by omega)
    exact ⟨g.1,g.2.1.mono (by omega),g.2.2.mono (by omega)⟩
   ·exact ⟨ih.1,ih.2.1.mono (by omega),ih.2.2.mono (by omega)⟩
noncomputable def spLWorth:Sp:=fun vs H Q _=>∃ (l fa:Addr)(p:Int)(ys:List V)(ts:List Tm)(bs:List Int)(m:Nat),vs=[.int p,.ref l,.ref fa]∧FP p∧H l=some (.lst ys)∧a8 H ys ts∧H fa=some (.tup (bs.map V.int))∧bs.length < 4000 ∧
 (∀ t∈ts,Gn p m t.2∧t.1.length < 4000∧∀ k∈t.1,0≤k∧k < (bs.length:Int))∧(m + 1) * ts.length + 7≤4000∧m≤4000∧∀ H' a,au H H'->H' a=some (cj (bu p bs ts).1 (bu p bs ts).2)->Q (.ref a) H'
theorem fN:FnScope ["_law_prime_here","_law_terms_here","_law_filling_here","_law_found","_law_product_here","_law_number_here"] ["_law_prime_here","_law_terms_here","_law_filling_here"] (aj nv):=⟨rfl,rfl,rfl,by decide +kernel,rfl,by decide +kernel,by decide +kernel⟩
theorem n6 {bs:List Int}{k:Int}(h0:0≤k)(h1:k < (bs.length:Int)):mj (bs.map V.int) k=some (.int (bs.getD k.toNat 0)):=by
 unfold mj wQ
 rw [List.length_map,if_pos h0,if_pos h1]
 show (bs.map V.int)[k.toNat]?=_
 have hk:k.toNat < bs.length:=by omega
 rw [List.getElem?_map,List.getElem?_eq_getElem hk,List.getD_eq_getElem?_getD,List.getElem?_eq_getElem hk]
 rfl
section
variable {P:Program}{w:World}{K:PySem.W.Frag}{mg:Str->Option Value}{base:Heap}
theorem uq {f fl:Addr}{fd fdl:FuncData}(F:Fun K "_law_worth" "_law_worth" nv f fd)
 (FLp:FnOk P w K mg base (aU P w) 3 fl fdl ["_law_prime_here","_law_one","_law_other"] (qw gP))(bLp:L2.ax K fdl ["_law_prime_here","_law_one","_law_other"] [])(mLp:mg "_law_plus"=some (.ref fl))(kLp:keepIn K (.ref fl)=true):
 FnOk P w K mg base (aU P w) 4 f fd ["_law_prime_here","_law_terms_here","_law_filling_here"] spLWorth:=by
 refine F.okN fN (fun vs H Q E h=>?_) (fun cdv A outer s H vs Q E hr h=>?_)
 ·obtain ⟨l,fa,p,ys,ts,bs,m,rfl,_⟩:=h
  rfl
 ·obtain ⟨l,fa,p,ys,ts,bs,m,rfl,hp,hl,hts,hfa,hbs,hG,hm,hm2,q⟩:=h
  have hr3:Room 3 _:=hr.mono (by decide)
  have hr1:Room 1 _:=hr.mono (by decide)
  refine ⟨_,(ai (@aK _ _ 3 _ _ _ _ fN.nd rfl (Or.inl rfl) (@bH _ _ _ _ _ (@ag _ _ _ _ _ ah (@ag _ _ _ _ _ ah ad rfl) rfl)) rfl (Or.inl rfl))
   (ai (fV PassesOwn.never rfl (cK (pv 1)) (cV rfl (aL (aE (i:=4) fN.nd rfl (Or.inl rfl)) (aL (aE (i:=5) fN.nd rfl (Or.inl rfl)) cw)))
   (am (a7 (@aF _ _ _ _ _ _ _ _ (oC hr1) (cg (N:=["_law_place","_law_filling_here"]) (nl:=1) (js:=[2]) (osc:=aj nv) ⟨rfl,rfl,by decide +kernel,by decide +kernel,by decide +kernel,rfl,(.cons ⟨rfl,by decide +kernel⟩ .nil),by decide +kernel⟩ rfl
    (iO (pv 4))
    (fun C fp s H=>aE (i:=0) (by show (["_law_place","_law_filling_here"]:List Str).Nodup; decide +kernel) rfl (Or.inl rfl) (Or.inr rfl))
    (fun C fp s H=>(dY (@aF _ _ _ _ _ _ _ _ cI (@aW _ _ _ _ _ _ _ (show yh _ (uS K) from cb) (pv 1) (pv 0) (fun _ _=>rfl)) ah (aG _))))
    (fun C fp s H=>(pv 0))) (@bq _ _ _ _ ad) (aG _)) (am (@aK _ _ 3 _ _ _ _ fN.nd rfl (Or.inl rfl) (aq FLp hr3 (by rfl) mLp kLp bLp .nil ae (@ag _ _ _ _ _ (pv 0) (@ag _ _ _ _ _ (pv 3) (@ag _ _ _ _ _ (pv 5) ad rfl) rfl) rfl)) rfl (Or.inl rfl))) aC)))
   (am (av (pv 3))))),?_⟩
  have gg:∀ i,i≤ts.length->Gn p 4000 (bu p bs (ts.take i)):=fun i hi=>by
   have b:=gH (m:=m) (bs:=bs) hp i (ts.take i) (by simp; omega) fun t ht=>(hG t (List.mem_of_mem_take ht)).1
   have le:(m + 1) * i + 7≤4000:=Nat.le_trans (Nat.add_le_add_right (Nat.mul_le_mul_left _ hi) _) hm
   exact ⟨b.1,b.2.1.mono le,b.2.2.mono le⟩
  have one:∀ {n:Nat}{a:Int × Int},Gn p n a->p≠0->a.2=1:=fun h z=>(h.1.pr z).1
  have hlen:=hts.length
  refine ⟨(by show 2≤sizeLine; decide),fun t0 ht0=>?_⟩
  have s1:au H (upd H t0 (cj 0 1)):=ak ht0
  refine ⟨_,rfl,l,rfl,⟨ys,aO.of (s1 _ _ hl)⟩,?_⟩
  refine ⟨fun i m σ' H'=>m=ts.length - i∧i≤ts.length∧au H H'∧∃ aw o4 o5,H' aw=some (cj (bu p bs (ts.take i)).1 (bu p bs (ts.take i)).2)∧σ'=[some (.int p),some (.ref l),some (.ref fa),some (.ref aw),o4,o5],
   ⟨ts.length,by simp,Nat.zero_le _,s1,t0,none,none,ac,rfl⟩,?_⟩
  rintro i m' σ' H' ⟨rfl,hi,sH,aw,o4,o5,hw,rfl⟩
  have hl':=sH _ _ hl
  have hfa':=sH _ _ hfa
  by_cases hlt:i < ts.length
  ·have hly:i < ys.length:=by omega
   refine .inr ⟨⟨ys,ys[i],aO.of hl',by simp [hly]⟩,fun σ' H'=>i + 1≤ts.length∧au H H'∧∃ aw o4 o5,H' aw=some (cj (bu p bs (ts.take (i + 1))).1 (bu p bs (ts.take (i + 1))).2)∧σ'=[some (.int p),some (.ref l),some (.ref fa),some (.ref aw),o4,o5],?_,fun y H2 hy=>?_⟩
   ·rintro σ' H' ⟨h1,h2,h3⟩
    exact ⟨ts.length - (i + 1),by omega,rfl,h1,h2,h3⟩
   ·obtain ⟨rfl,hy⟩:=hy
    obtain ⟨t,et,tr⟩:=bJ hts (hy ys (aO.of hl'))
    obtain ⟨a,pr,nu,rfl,ha,hpr,hnu⟩:=tr.keep (aA.of sH)
    obtain ⟨gt,gl,gk⟩:=hG t (List.mem_of_getElem? et)
    have esn:ts.take (i + 1)=ts.take i++[t]:=by rw [List.take_add_one,et]; rfl
    rw [esn,eN]
    refine ⟨a,_,rfl,bc.of ha,rfl,_,_,rfl,_,_,rfl,rfl,?_⟩
    refine ⟨_,rfl,pr,rfl,⟨_,bc.of hpr⟩,?_⟩
    refine ⟨fun j m us σ' H3=>m=t.1.length - j∧j≤t.1.length∧H2=H3∧us=((t.1.take j).filter fun k=>bs.getD k.toNat 0 == 0).map V.int∧∃ o,σ'=[o,some (.ref fa)],⟨t.1.length,by simp,Nat.zero_le _,rfl,rfl,none,rfl⟩,?_⟩
    rintro j m' us σ' H3 ⟨rfl,hj,rfl,rfl,o,rfl⟩
    refine ⟨?_,?_⟩
    ·rw [List.length_map]
     exact Nat.lt_of_le_of_lt (List.length_filter_le _ _) (Nat.lt_of_le_of_lt (by simp; omega) (Nat.lt_trans gl (by decide)))
    by_cases hlt2:j < t.1.length
    ·refine .inr ⟨⟨t.1.map V.int,.int (t.1[j]),bc.of hpr,by simp [hlt2]⟩,fun x H4 hx=>?_⟩
     obtain ⟨rfl,hx⟩:=hx
     have ex:t.1[j]?=some t.1[j]:=by simp [hlt2]
     have ev:x = .int t.1[j]:=by
      have:=hx _ (bc.of hpr)
      rw [List.getElem?_map,ex] at this
      exact (Option.some.inj this).symm
     subst ev
     obtain ⟨k0,k1⟩:=gk t.1[j] (List.getElem_mem hlt2)
     have ek:t.1.take (j + 1)=t.1.take j++[t.1[j]]:=by rw [List.take_add_one,ex]; rfl
     refine ⟨_,rfl,_,rfl,fa,_,_,_,rfl,rfl,bc.of hfa',n6 k0 k1,rfl,_,rfl,?_⟩
     refine b7 (fun h=>?_) (fun h=>?_)
     ·have hz:bs.getD (t.1[j]).toNat 0=0:=by simpa using h
      refine ⟨_,rfl,t.1.length - (j + 1),by omega,rfl,hlt2,rfl,?_,_,rfl⟩
      have f1:[t.1[j]].filter (fun k=>bs.getD k.toNat 0 == 0)=[t.1[j]]:=by
       rw [List.filter_cons_of_pos (by show (bs.getD (t.1[j]).toNat 0 == 0)=true; rw [hz]; rfl)]; rfl
      rw [ek,List.filter_append,List.map_append,f1]
      rfl
     ·have hz:¬ bs.getD (t.1[j]).toNat 0=0:=by simpa using h
      refine ⟨t.1.length - (j + 1),by omega,rfl,hlt2,rfl,?_,_,rfl⟩
      rw [ek,List.filter_append,List.map_append]
      have f1:[t.1[j]].filter (fun k=>bs.getD k.toNat 0 == 0)=[]:=by
       rw [List.filter_cons_of_neg (by show ¬ (bs.getD (t.1[j]).toNat 0 == 0)=true; intro z; exact hz (eq_of_beq z))]; rfl
      rw [f1,List.map_nil,List.append_nil]
    ·have ej:j=t.1.length:=by omega
     subst ej
     refine .inl ⟨⟨_,bc.of hpr,by simp⟩,fun L hL=>?_⟩
     rw [List.take_length]
     have sL:au H2 (upd H2 L (.lst ((t.1.filter fun k=>bs.getD k.toNat 0 == 0).map V.int))):=ak hL
     refine ⟨Nat.zero_le _,fun L2 hL2=>?_⟩
     have s2:au (upd H2 L (.lst ((t.1.filter fun k=>bs.getD k.toNat 0 == 0).map V.int))) (upd (upd H2 L (.lst ((t.1.filter fun k=>bs.getD k.toNat 0 == 0).map V.int))) L2 (.lst [])):=ak hL2
     have sA:au H2 (upd (upd H2 L (.lst ((t.1.filter fun k=>bs.getD k.toNat 0 == 0).map V.int))) L2 (.lst [])):=fun b u e=>s2 _ _ (sL _ _ e)
     refine ⟨L,L2,_,rfl,rfl,aO.of (s2 _ _ ac),aO.of ac,_,rfl,?_⟩
     have gw:=gg i (Nat.le_of_lt hlt)
     cases hfil:iG bs t.1 with
     | true =>
       have xe:(t.1.filter fun k=>bs.getD k.toNat 0 == 0).map V.int=[]:=by
        have:t.1.filter (fun k=>bs.getD k.toNat 0 == 0)=[]:=List.isEmpty_iff.mp hfil
        rw [this]; rfl
       have ew:dF p bs (bu p bs (ts.take i)) t=dI p (bu p bs (ts.take i)) t.2:=by unfold dF; rw [if_pos hfil]
       rw [decide_eq_true xe]
       refine br ⟨_,rfl,_,rfl,_,rfl,p,(bu p bs (ts.take i)).1,(bu p bs (ts.take i)).2,t.2.1,t.2.2,aw,nu,rfl,hp,sA _ _ hw,sA _ _ hnu,gw.2.1,gw.2.2,gt.2.1.mono hm2,gt.2.2.mono hm2,gw.ne,gt.ne,fun z=>by rw [one gt z,one gw z]; decide,fun H5 an s5 h5=>?_⟩
       refine ⟨hlt,fun b u e=>s5 _ _ (sA _ _ (sH _ _ e)),an,_,_,?_,rfl⟩
       rw [ew]
       exact h5
     | false =>
       have xe:¬ (t.1.filter fun k=>bs.getD k.toNat 0 == 0).map V.int=[]:=fun z=>by
        have:t.1.filter (fun k=>bs.getD k.toNat 0 == 0)=[]:=List.map_eq_nil_iff.mp z
        unfold iG at hfil
        rw [this] at hfil
        cases hfil
       have ew:dF p bs (bu p bs (ts.take i)) t=bu p bs (ts.take i):=by unfold dF; rw [if_neg (by rw [hfil]; decide)]
       rw [decide_eq_false xe]
       refine bx ⟨hlt,fun b u e=>sA _ _ (sH _ _ e),aw,_,_,?_,rfl⟩
       rw [ew]
       exact sA _ _ hw
  ·have ei:i=ts.length:=by omega
   subst ei
   rw [List.take_length] at hw
   exact .inl ⟨⟨ys,aO.of hl',by omega⟩,_,rfl,q _ aw sH hw⟩
end
end K07
namespace L2
open PySem
theorem ud {σ:St}{H:Hp}{A B:Hp->Prop}(h:A H):tYes σ H fun b H4=>if b=true then A H4 else B H4:=h
theorem kx {J:It}{n:Nat}{at_:Nat->V->Prop}{tt:TT}{te:TE}{rest:St}{H:Hp}{F:List V->Hp->Prop}(Pv:Nat->List V->Hp->Prop)(h0:Pv 0 [] H)
 (hz:∀ i ys H',i≤n->Pv i ys H'->ys.length < sizeLine∧(i < n->J.go i H')∧(i=n->J.stop i H')∧∀ x H2,J.yld i H' x H2->H2=H'∧at_ i x)
 (hs:∀ i x ys H' (N:List V->Hp->Prop),i < n->at_ i x->Pv i ys H'->(∀ zs H5,Pv (i + 1) zs H5->N zs H5) →
  tt (some x :: rest) H' fun b H4=>if b=true then te (some x :: rest) H4 fun y H5=>N (ys++[y]) H5 else N ys H4)
 (hd:∀ ys H',Pv n ys H'->F ys H'):
 ∃ W:Nat->Nat->List V->St->Hp->Prop,(∃ m,W 0 m [] (none :: rest) H)∧iY J (bD 0) tt te W F:=by
 refine ⟨fun i m ys σ H'=>m=n - i∧i≤n∧Pv i ys H'∧∃ o,σ=o :: rest,⟨n,by simp,Nat.zero_le _,h0,none,rfl⟩,?_⟩
 rintro i m ys σ H' ⟨rfl,hi,p,o,rfl⟩
 obtain ⟨z1,z2,z3,z4⟩:=hz i ys H' hi p
 refine ⟨z1,?_⟩
 by_cases hlt:i < n
 ·refine .inr ⟨z2 hlt,fun x H2 hy=>?_⟩
  obtain ⟨rfl,hx⟩:=z4 x H2 hy
  exact hs i x ys H2 (fun zs H5=>∃ m',m' < n - i∧m'=n - (i + 1)∧i + 1≤n∧Pv (i + 1) zs H5∧∃ o',(some x :: rest:St)=o' :: rest) hlt hx p fun zs H5 h=>⟨n - (i + 1),by omega,rfl,hlt,h,_,rfl⟩
 ·have:i=n:=by omega
  subst this
  exact .inl ⟨z3 rfl,hd ys H' p⟩
theorem hJ {K:PySem.W.Frag}{a:Addr}{xs:List V}{tt:TT}{te:TE}{rest:St}{H:Hp}{F:List V->Hp->Prop}(Pv:Nat->List V->Hp->Prop)(h0:Pv 0 [] H)
 (hz:∀ i ys H',i≤xs.length->Pv i ys H'->ys.length < sizeLine∧bc K H' a xs)
 (hs:∀ i x ys H' (N:List V->Hp->Prop),i < xs.length->xs[i]?=some x->Pv i ys H'->(∀ zs H5,Pv (i + 1) zs H5->N zs H5) →
  tt (some x :: rest) H' fun b H4=>if b=true then te (some x :: rest) H4 fun y H5=>N (ys++[y]) H5 else N ys H4)
 (hd:∀ ys H',Pv xs.length ys H'->F ys H'):
 ∃ W:Nat->Nat->List V->St->Hp->Prop,(∃ m,W 0 m [] (none :: rest) H)∧iY (CD K a) (bD 0) tt te W F:=by
 refine kx (n:=xs.length) (at_:=fun i x=>xs[i]?=some x) Pv h0 (fun i ys H' hi p=>?_) hs hd
 obtain ⟨z1,z2⟩:=hz i ys H' hi p
 exact ⟨z1,fun h=>⟨xs,xs[i],z2,by simp [h]⟩,fun h=>⟨xs,z2,by omega⟩,fun x H2 hy=>⟨hy.1,hy.2 xs z2⟩⟩
theorem ww {K:PySem.W.Frag}{a:Addr}{xs:List V}{tt:TT}{te:TE}{rest:St}{H:Hp}{F:List V->Hp->Prop}(Pv:Nat->List V->Hp->Prop)(h0:Pv 0 [] H)
 (hz:∀ i ys H',i≤xs.length->Pv i ys H'->ys.length < sizeLine∧aO K H' a xs)
 (hs:∀ i x ys H' (N:List V->Hp->Prop),i < xs.length->xs[i]?=some x->Pv i ys H'->(∀ zs H5,Pv (i + 1) zs H5->N zs H5) →
  tt (some x :: rest) H' fun b H4=>if b=true then te (some x :: rest) H4 fun y H5=>N (ys++[y]) H5 else N ys H4)
 (hd:∀ ys H',Pv xs.length ys H'->F ys H'):
 ∃ W:Nat->Nat->List V->St->Hp->Prop,(∃ m,W 0 m [] (none :: rest) H)∧iY (Ap K a) (bD 0) tt te W F:=by
 refine kx (n:=xs.length) (at_:=fun i x=>xs[i]?=some x) Pv h0 (fun i ys H' hi p=>?_) hs hd
 obtain ⟨z1,z2⟩:=hz i ys H' hi p
 exact ⟨z1,fun h=>⟨xs,xs[i],z2,by simp [h]⟩,fun h=>⟨xs,z2,by omega⟩,fun x H2 hy=>⟨hy.1,hy.2 xs z2⟩⟩
theorem wa {lo:Int}{n:Nat}{tt:TT}{te:TE}{rest:St}{H:Hp}{F:List V->Hp->Prop}(Pv:Nat->List V->Hp->Prop)(h0:Pv 0 [] H)
 (hz:∀ i ys H',i≤n->Pv i ys H'->ys.length < sizeLine)
 (hs:∀ i ys H' (N:List V->Hp->Prop),i < n->Pv i ys H'->(∀ zs H5,Pv (i + 1) zs H5->N zs H5) →
  tt (some (.int (lo + i)):: rest) H' fun b H4=>if b=true then te (some (.int (lo + i)):: rest) H4 fun y H5=>N (ys++[y]) H5 else N ys H4)
 (hd:∀ ys H',Pv n ys H'->F ys H'):
 ∃ W:Nat->Nat->List V->St->Hp->Prop,(∃ m,W 0 m [] (none :: rest) H)∧iY (zw lo n) (bD 0) tt te W F:=by
 refine kx (n:=n) (at_:=fun i x=>x = .int (lo + i)) Pv h0 (fun i ys H' hi p=>?_) (fun i x ys H' N h1 h2=>by subst h2; exact hs i ys H' N h1) hd
 exact ⟨hz i ys H' hi p,fun h=>h,fun h=>by show n≤i; omega,fun x H2 hy=>hy⟩
theorem iM {K:PySem.W.Frag}{a:Addr}{xs:List V}{tt:TT}{te:TE}{rest:St}{H:Hp}{F:List V->Hp->Prop}(Pv:Nat->List V->Hp->Prop)(h0:Pv 0 [] H)
 (hz:∀ i ys H',i≤xs.length->Pv i ys H'->ys.length < sizeLine∧aO K H' a xs)
 (hs:∀ i x ys H',i < xs.length->xs[i]?=some x->Pv i ys H' →
  ∃ b u v,x = .ref b∧bc K H' b [u,v]∧∀ (N:List V->Hp->Prop),(∀ zs H5,Pv (i + 1) zs H5->N zs H5)->tt (some u :: some v :: rest) H' fun b H4=>if b=true then te (some u :: some v :: rest) H4 fun y H5=>N (ys++[y]) H5 else N ys H4)
 (hd:∀ ys H',Pv xs.length ys H'->F ys H'):
 ∃ W:Nat->Nat->List V->St->Hp->Prop,(∃ m,W 0 m [] (none :: none :: rest) H)∧iY (Ap K a) (lz K 2 (cP (bD 0) (cP (bD 1) gNil))) tt te W F:=by
 refine ⟨fun i m ys σ H'=>m=xs.length - i∧i≤xs.length∧Pv i ys H'∧∃ o o2,σ=o :: o2 :: rest,⟨xs.length,by simp,Nat.zero_le _,h0,none,none,rfl⟩,?_⟩
 rintro i m ys σ H' ⟨rfl,hi,p,o,o2,rfl⟩
 obtain ⟨z1,z2⟩:=hz i ys H' hi p
 refine ⟨z1,?_⟩
 by_cases hlt:i < xs.length
 ·refine .inr ⟨⟨xs,xs[i],z2,by simp [hlt]⟩,fun x H2 hy=>?_⟩
  obtain ⟨rfl,hx⟩:=hy
  obtain ⟨b,u,v,rfl,hb,h⟩:=hs i x ys H2 hlt (hx xs z2) p
  exact ⟨_,[u,v],rfl,hb,rfl,_,_,rfl,_,_,rfl,rfl,h (fun zs H5=>∃ m',m' < xs.length - i∧m'=xs.length - (i + 1)∧i + 1≤xs.length∧Pv (i + 1) zs H5∧∃ o o2,(some u :: some v :: rest:St)=o :: o2 :: rest) fun zs H5 h=>⟨xs.length - (i + 1),by omega,rfl,hlt,h,_,_,rfl⟩⟩
 ·have:i=xs.length:=by omega
  subst this
  exact .inl ⟨⟨xs,z2,Nat.le_refl _⟩,hd ys H' p⟩
end L2
namespace K07
open PySem L2 PySem.W Nm Srt
noncomputable abbrev qg:Stmt:=a9 (aY 30) 13
noncomputable def A8 (ks:List Int):Prop:=ks.Pairwise (· < ·)∧(∀ k∈ks,0≤k)∧ks.length < 64
theorem gZ:∀ {ks:List Int}{k:Int}(d:Int),ks.Pairwise (· < ·)->k∈ks->k≤ks.getLastD d
 | [],_,_,_,h=>nomatch h
 | [a],k,d,_,h=>by
   have:k=a:=by simpa using h
   subst this
   exact Int.le_refl _
 | a :: b :: r,k,d,hp,h=>by
   obtain ⟨h1,h2⟩:=List.pairwise_cons.mp hp
   have e:(a :: b :: r).getLastD d=(b :: r).getLastD a:=rfl
   rw [e]
   rcases List.mem_cons.mp h with rfl | h
   ·have:=gZ k h2 (List.mem_cons_self (a:=b) (l:=r))
    have:=h1 b List.mem_cons_self
    omega
   ·exact gZ a h2 h
theorem gU {ts:List Tm}{t:Tm}{k:Int}(ht:t∈ts)(hp:t.1.Pairwise (· < ·))(hk:k∈t.1):k < ay ts:=by
 have ne:t.1≠[]:=by intro z; rw [z] at hk; cases hk
 have hm:lastP t∈(ts.filter fun t=>!t.1.isEmpty).map lastP:=List.mem_map.mpr ⟨t,List.mem_filter.mpr ⟨ht,by
  cases q:t.1 with
  | nil=>exact absurd q ne
  | cons a r=>rfl⟩,rfl⟩
 obtain ⟨b,e,_,hb⟩:=gm (ns:=(ts.filter fun t=>!t.1.isEmpty).map lastP) (by intro z; rw [z] at hm; cases hm)
 unfold ay
 rw [e]
 have h1:=hb _ hm
 have h2:=gZ 0 hp hk
 unfold lastP at h1
 show k < b
 omega
noncomputable def ci (r:Int)(o:Option (List V)):Bool:=qW o&&decide (r≤((o.getD []).length:Int))
theorem yB {xs:List V}(h:xs.all bitB=true):∃ bs:List Int,xs=bs.map V.int∧∀ b∈bs,0≤b∧b≤1:=by
 induction xs with
 | nil=>exact ⟨[],rfl,fun b h=>nomatch h⟩
 | cons x xs ih =>
   rw [List.all_cons,Bool.and_eq_true] at h
   obtain ⟨bs,rfl,hb⟩:=ih h.2
   have:∃ n,x=V.int n∧0≤n∧n≤1:=by
    have:=h.1
    cases x with
    | int n =>
      have z:(decide (0≤n)&&decide (n≤1))=true:=this
      rw [Bool.and_eq_true] at z
      exact ⟨n,rfl,of_decide_eq_true z.1,of_decide_eq_true z.2⟩
    | _=>cases this
   obtain ⟨n,rfl,hn⟩:=this
   exact ⟨n :: bs,rfl,fun b hb'=>by
    rcases List.mem_cons.mp hb' with rfl | hb'
    ·exact hn
    ·exact hb b hb'⟩
noncomputable def pX (p:Int)(m:Nat)(ts:List Tm):Prop:=ts.length < 64∧(∀ t∈ts,Gn p m t.2∧A8 t.1)∧(m + 1) * ts.length + 7≤4000∧m≤4000
structure SumAt (C CF:Addr)(H:Hp)(s dx fl dxf D:Addr)(p:Int)(zs:List V)(ts:List Tm):Prop where
 hs:H s=some (.ins C dx (n5 fl D))
 hf:H fl=some (.ins CF dxf (gu p))
 hp:FP p
 hD:H D=some (.lst zs)
 hz:a8 H zs ts
theorem SumAt.same {C CF:Addr}{H H':Hp}{s dx fl dxf D:Addr}{p:Int}{zs:List V}{ts:List Tm}(h:SumAt C CF H s dx fl dxf D p zs ts)(e:au H H'):SumAt C CF H' s dx fl dxf D p zs ts :=
 ⟨e _ _ h.hs,e _ _ h.hf,h.hp,e _ _ h.hD,a8.keep h.hz (aA.of e)⟩
noncomputable def gO (C CF NF:Addr):Sp:=fun vs H Q E=>∃ (s dx fl dxf D:Addr)(p:Int)(zs:List V)(ts:List Tm)(m:Nat)(x:V)(o:Option (List V)),vs=[.ref s,x]∧SumAt C CF H s dx fl dxf D p zs ts∧pX p m ts∧PX H x o ∧
 (ci (ay ts) o=false->∀ H',au H H'->E (.ref NF) none H') ∧
 (∀ bs:List Int,ci (ay ts) o=true->o=some (bs.map V.int)->(∀ b∈bs,0≤b∧b≤1)->ay ts≤bs.length->∀ H' a,au H H'->H' a=some (cj (bu p bs ts).1 (bu p bs ts).2)->Q (.ref a) H')
theorem ib:FnScope ["self","filling","total","product","number"] ["self","filling"] (aj qg):=⟨rfl,rfl,rfl,by decide +kernel,rfl,by decide +kernel,by decide +kernel⟩
theorem sd:∀ ns:List Int,Paired AO (ns.map V.int) (ns.map fun n=>n != 0)
 | []=>.nil
 | b :: bs=>.cons rfl (sd bs)
theorem qx {bs ks:List Int}:((ks.map fun k=>bs.getD k.toNat 0).map fun n=>n != 0).all id=iG bs ks:=by
 unfold iG
 rw [List.map_map,List.all_map]
 induction ks with
 | nil=>rfl
 | cons k r ih =>
   rw [List.all_cons,ih]
   show ((bs.getD k.toNat 0 != 0)&&_)=_
   by_cases z:bs.getD k.toNat 0=0
   ·rw [List.filter_cons_of_pos (by show (bs.getD k.toNat 0 == 0)=true; rw [z]; rfl)]
    rw [z]
    rfl
   ·rw [List.filter_cons_of_neg (by show ¬ (bs.getD k.toNat 0 == 0)=true; intro y; exact z (eq_of_beq y))]
    have:(bs.getD k.toNat 0 != 0)=true:=by simpa using z
    rw [this,Bool.true_and]
theorem AL {CF NN:Addr}{H:Hp}{Q:VK}{E:XK}{fl dxf:Addr}{p:Int}(hf:H fl=some (.ins CF dxf (gu p)))(hp:FP p)(q:∀ a,H a=none->Q (.ref a) (upd H a (cj 0 1))):qJ CF NN [.ref fl,.int 0,.int 1] H Q E:=by
 refine ⟨fl,dxf,p,.int 0,.int 1,"int","int",rfl,hf,.int 0,.int 1,fun t b e1 e2=>?_,fun z=>by cases z⟩
 cases e1
 cases e2
 refine ⟨fl,dxf,p,0,1,rfl,hf,hp,(by show (1:Int).natAbs < 2 ^ 9000; exact Nat.lt_of_lt_of_le (by decide:(1:Int).natAbs < 2 ^ 1) (Nat.pow_le_pow_right (by decide) (by decide))),fun _ z=>absurd z (by decide),fun _ _ a ha=>?_,fun z y=>?_,fun z _ v v0 v1 v2 a ha=>?_⟩
 ·have z:=ka (t:=0) (b:=1) (by decide) (by simp)
  rw [z.1,z.2]
  exact q a ha
 ·have:=(hp.two z).2.1
  rw [Int.emod_eq_of_lt (by decide) (by omega)] at y
  cases y
 ·rw [Int.zero_mul,Int.zero_emod]
  exact q a ha
section
variable {P:Program}{w:World}{K:PySem.W.Frag}{mg:Str->Option Value}{base:Heap}
theorem v4 {f C CF NF NN fb fr fm fp:Addr}{fd fdb fdr fdm fdp:FuncData}{tM:Tok}(F:Fun K "worth" "Sum.worth" qg f fd)(c:SumK K mg C)(cF:FieldK K mg CF)(m_len:mg "len"=none)(m_all:mg "all"=none)
 (FB:FnOk P w K mg base (aU P w) 2 fb fdb ["thing"] spBits)(bB:L2.ax K fdb ["thing"] [])(mB:mg "is_row_of_bits"=some (.ref fb))(kB:keepIn K (.ref fb)=true)
 (FR:FnOk P w K mg base (aU P w) 1 fr fdr ["self"] (nX C))(bR:L2.ax K fdr ["self"] [])(mR:L2.Meth K C "reach" fr)
 (FM:FnOk P w K mg base (aU P w) 4 fm fdm ["self","top","bottom"] (qJ CF NN))(bM:L2.ax K fdm ["self","top","bottom"] [.int 1 tM])(mM:L2.Meth K CF "made" fm)
 (FP:FnOk P w K mg base (aU P w) 4 fp fdp ["self","one","other"] (wg CF gP))(bP:L2.ax K fdp ["self","one","other"] [])(mP:L2.Meth K CF "plus" fp)
 (mN:mg "NoFilling"=some (.ref NF))(qN:excIn K NF xt mZ=true):FnOk P w K mg base (aU P w) 5 f fd ["self","filling"] (gO C CF NF):=by
 refine F.okE ib (fun vs H Q E h=>?_) (fun cdv A outer s H vs Q E hr h=>?_)
 ·obtain ⟨s,dx,fl,dxf,D,p,zs,ts,m,x,o,rfl,_⟩:=h
  rfl
 ·obtain ⟨s0,dx,fl,dxf,D,p,zs,ts,m,x,o,rfl,S,ok,px,qE,q⟩:=h
  have hr4:Room 4 _:=hr.mono (by decide)
  have hr2:Room 2 _:=hr.mono (by decide)
  have hr1:Room 1 _:=hr.mono (by decide)
  obtain ⟨h64,hG,hm,hm2⟩:=ok
  refine ⟨_,(ai (a7 (PW.pt (dQ (bY (bw (aq FB hr2 (by rfl) mB kB bB .nil ae (@ag _ _ _ _ _ (pv 1) ad rfl)))) (cN (@aF _ _ _ _ _ _ _ _ fM (ar aQ (by rfl) m_len PySem.boot_len (@ag _ _ _ _ _ (pv 1) ad rfl)) (eC (pv 0) c.cl mR FR hr1 bR .nil ae) (aG _))))) (am (d8 PySem.F.excBase_ValueError qN rfl db (by rfl) mN (@ag _ _ _ _ _ cn ad rfl))) aC)
   (ai (@aK _ _ 2 _ _ _ _ ib.nd rfl (Or.inl rfl) (dk (dvs:=[.int 1]) (cp (pv 0) rfl) cF.cl mM FM hr4 bM (.cons ⟨_,rfl⟩ .nil) ae (@ag _ _ _ _ _ ah ad rfl)) rfl (Or.inl rfl))
   (ja.nox (ai (fV PassesOwn.never rfl (cK (cp (pv 0) rfl)) (cV rfl (aL (aE (i:=3) ib.nd rfl (Or.inl rfl)) (aL (aE (i:=4) ib.nd rfl (Or.inl rfl)) cw)))
   (am (a7 (bw (ar (fU rfl) (by rfl) m_all (by rfl) (@ag _ _ _ _ _ (cg (N:=["place","filling"]) (nl:=1) (js:=[1]) (osc:=aj qg) ⟨rfl,rfl,by decide +kernel,by decide +kernel,by decide +kernel,rfl,(.cons ⟨rfl,by decide +kernel⟩ .nil),by decide +kernel⟩ rfl
    (iO (pv 3))
    (fun C fp s H=>aE (i:=0) (by show (["place","filling"]:List Str).Nodup; decide +kernel) rfl (Or.inl rfl) (Or.inr rfl))
    (fun C fp s H=>cL)
    (fun C fp s H=>(@aW _ _ _ _ _ _ _ (show yh _ (uS K) from cb) (pv 1) (pv 0) (fun _ _=>rfl)))) ad rfl))) (am (@aK _ _ 2 _ _ _ _ ib.nd rfl (Or.inl rfl) (dk (cp (pv 0) rfl) cF.cl mP FP hr4 bP .nil ae (@ag _ _ _ _ _ (pv 2) (@ag _ _ _ _ _ (pv 4) ad rfl) rfl)) rfl (Or.inl rfl))) aC)))
   (am (av (pv 2))))))),?_⟩
  refine ⟨_,rfl,x,o,rfl,px,fun H1 s1=>⟨_,rfl,?_⟩⟩
  cases eb:qW o with
  | false=>exact br (br ⟨by decide,qE (by unfold ci; rw [eb]; rfl) H1 s1⟩)
  | true =>
    refine bx ?_
    cases px with
    | no=>cases eb
    | @tup a xs ha hl hth =>
      have ha1:=s1 _ _ ha
      have S1:=S.same s1
      refine ⟨_,rfl,a,xs,rfl,.inr (bc.of ha1),_,rfl,s0,dx,_,rfl,S1.hs,rfl,s0,dx,fl,D,zs,ts,rfl,S1.hs,S1.hD,S1.hz,by omega,fun t ht=>by have:=(hG t ht).2.2.2; omega,fun H2 s2=>?_⟩
      refine ⟨_,_,rfl,rfl,_,rfl,?_⟩
      have s12:=s1.trans s2
      refine b7 (fun h=>?_) (fun h=>?_)
      ·have h':((xs.length:Nat):Int) < ay ts:=by simpa using h
       refine ⟨by decide,qE ?_ H2 s12⟩
       unfold ci
       rw [Bool.and_eq_false_iff]
       exact .inr (decide_eq_false (by show ¬ ay ts≤(xs.length:Int); omega))
      ·have h':¬ ((xs.length:Nat):Int) < ay ts:=by simpa using h
       obtain ⟨bs,rfl,hbs⟩:=yB (xs:=xs) eb
       rw [List.length_map] at h' hl
       have hfb:ci (ay ts) (some (bs.map V.int))=true:=by
        unfold ci
        rw [eb,Bool.true_and]
        refine decide_eq_true ?_
        show ay ts≤((bs.map V.int).length:Int)
        rw [List.length_map]; omega
       have q':=q bs hfb rfl hbs (by omega)
       have S2:=S.same s12
       have ha2:=s12 _ _ ha
       have gg:∀ i,i≤ts.length->Gn p 4000 (bu p bs (ts.take i)):=fun i hi=>by
        have b:=gH (m:=m) (bs:=bs) S.hp i (ts.take i) (by simp; omega) fun t ht=>(hG t (List.mem_of_mem_take ht)).1
        have le:(m + 1) * i + 7≤4000:=Nat.le_trans (Nat.add_le_add_right (Nat.mul_le_mul_left _ hi) _) hm
        exact ⟨b.1,b.2.1.mono le,b.2.2.mono le⟩
       have hlen:=S.hz.length
       refine ⟨_,rfl,s0,C,dx,_,_,rfl,S2.hs,c.cl,c.nF,rfl,fl,dxf,_,rfl,S2.hf,rfl,AL S2.hf S.hp fun a0 ha0=>?_⟩
       have s3:au H (upd H2 a0 (cj 0 1)):=s12.trans (ak ha0)
       have S3:=S.same s3
       refine ⟨_,rfl,s0,C,dx,_,_,rfl,S3.hs,c.cl,c.nT,rfl,D,rfl,⟨zs,aO.of S3.hD⟩,?_⟩
       refine pA (xs:=zs) (fun i σ' H'=>au H H'∧∃ aw o3 o4,H' aw=some (cj (bu p bs (ts.take i)).1 (bu p bs (ts.take i)).2)∧σ'=[some (.ref s0),some (.ref a),some (.ref aw),o3,o4])
        ⟨s3,a0,none,none,ac,rfl⟩ (fun i σ' H' _ h=>aO.of (h.1 _ _ S.hD)) (fun i y σ' H' hy h=>?_) (fun σ' H' h=>?_)
       ·obtain ⟨sH,aw,o3,o4,hw,rfl⟩:=h
        obtain ⟨t,et,tr⟩:=bJ S.hz hy
        obtain ⟨at_,pr,nu,rfl,hat,hpr,hnu⟩:=tr.keep (aA.of sH)
        have tm:=List.mem_of_getElem? et
        obtain ⟨gt,pw,k0,kl⟩:=hG t tm
        have ilt:i < ts.length:=by
         rcases Nat.lt_or_ge i ts.length with z | z
         ·exact z
         ·rw [List.getElem?_eq_none z] at et; cases et
        have esn:ts.take (i + 1)=ts.take i++[t]:=by rw [List.take_add_one,et]; rfl
        have SH:=S.same sH
        have haH:=sH _ _ ha
        refine ⟨at_,_,rfl,bc.of hat,rfl,_,_,rfl,_,_,rfl,rfl,?_⟩
        refine ⟨_,rfl,pr,rfl,⟨_,bc.of hpr⟩,?_⟩
        refine hJ (xs:=t.1.map V.int) (fun j us H3=>H'=H3∧us=((t.1.take j).map fun k=>bs.getD k.toNat 0).map V.int) ⟨rfl,rfl⟩ (fun j us H3 hj h=>?_) (fun j x us H3 N hj hx h k=>?_) (fun us H3 h=>?_)
        ·obtain ⟨rfl,rfl⟩:=h
         exact ⟨Nat.lt_of_le_of_lt (by simp; omega) (Nat.lt_trans kl (by decide)),bc.of hpr⟩
        ·obtain ⟨rfl,rfl⟩:=h
         have hj':j < t.1.length:=by simpa using hj
         have ex:t.1[j]?=some t.1[j]:=by simp [hj']
         have ev:x = .int t.1[j]:=by
          rw [List.getElem?_map,ex] at hx
          exact (Option.some.inj hx).symm
         subst ev
         have km:=List.getElem_mem hj'
         have k1:=gU tm pw km
         have ek:t.1.take (j + 1)=t.1.take j++[t.1[j]]:=by rw [List.take_add_one,ex]; rfl
         refine ud ⟨_,rfl,_,rfl,a,_,_,_,rfl,rfl,bc.of haH,n6 (k0 _ km) (by omega),k _ _ ⟨rfl,?_⟩⟩
         rw [ek,List.map_append,List.map_append]
         rfl
        ·obtain ⟨rfl,rfl⟩:=h
         intro L hL
         rw [List.length_map,List.take_length]
         have sL:au H' (upd H' L (.lst ((t.1.map fun k=>bs.getD k.toNat 0).map V.int))):=ak hL
         refine ⟨L,_,_,rfl,aO.of ac,sd _,_,rfl,?_⟩
         rw [qx]
         have gw:=gg i (Nat.le_of_lt ilt)
         have SL:=SH.same sL
         cases hfil:iG bs t.1 with
         | true =>
           have ew:dF p bs (bu p bs (ts.take i)) t=dI p (bu p bs (ts.take i)) t.2:=by unfold dF; rw [if_pos hfil]
           refine br ⟨_,rfl,s0,C,dx,_,_,rfl,SL.hs,c.cl,c.nF,rfl,fl,dxf,_,rfl,SL.hf,rfl,_,rfl,_,rfl,fl,dxf,aw,nu,p,(bu p bs (ts.take i)).1,(bu p bs (ts.take i)).2,t.2.1,t.2.2,rfl,SL.hf,S.hp,sL _ _ hw,sL _ _ hnu,gw.2.1,gw.2.2,gt.2.1.mono hm2,gt.2.2.mono hm2,gw.ne,gt.ne,fun an han=>?_⟩
           refine ⟨sH.trans (sL.trans (ak han)),an,_,_,?_,rfl⟩
           rw [esn,eN,ew]
           exact ac
         | false =>
           have ew:dF p bs (bu p bs (ts.take i)) t=bu p bs (ts.take i):=by unfold dF; rw [if_neg (by rw [hfil]; decide)]
           refine bx ⟨sH.trans sL,aw,_,_,?_,rfl⟩
           rw [esn,eN,ew]
           exact sL _ _ hw
       ·obtain ⟨sH,aw,o3,o4,hw,rfl⟩:=h
        rw [hlen,List.take_length] at hw
        exact ⟨_,rfl,q' _ aw sH hw⟩
end
end K07
namespace L2
open PySem PySem.W
noncomputable def qA (K:Frag):List V->Hp->VK->Prop:=fun xs H Q=>∃ p ys,xs=[.ref p]∧((aO K H p ys∧∀ l,H l=none->Q (.ref l) (upd H l (.tup ys)))∨(bc K H p ys∧Q (.ref p) H))
noncomputable def rJ (K:Frag):List V->Hp->VK->Prop:=fun xs H Q=>∃ p ys,xs=[.ref p]∧(aO K H p ys∨bc K H p ys)∧Q (.int ys.length) H
noncomputable def qB (K:Frag):List V->Hp->VK->Prop:=fun xs H Q=>∃ (l:Addr)(ns:List Int),xs=[.ref l]∧aO K H l (ns.map V.int)∧ns.length < 64∧∀ (D:Addr)(ms:List Int),H D=none->ms.Perm ns->ms.Pairwise (· ≤ ·)->Q (.ref D) (upd H D (.lst (ms.map V.int)))
section
variable {X:Cx}
theorem j7 {K:Frag}(hK:X.K=K):cR X (.type "tuple") (qA K):=by subst hK; exact cE
theorem tP {K:Frag}(hK:X.K=K):cR X (.builtin "len") (rJ K):=by subst hK; exact aQ
theorem sv {K:Frag}(hK:X.K=K):cR X (.builtin "sorted") (qB K):=by subst hK; exact p9
theorem AN {K:Frag}(hK:X.K=K):yh X (uS K):=by subst hK; exact cb
theorem zc {K:Frag}(hK:X.K=K):yh X (yc K):=by subst hK; exact aZ
variable {tg l:Expr}{tl:TE}
theorem y7 {K:Frag}(hK:X.K=K)(hl:PE X l tl):PI X tg l (ym K tl):=by subst hK; exact iO hl
end
open PySem.Spec PyProof.Rows
section
variable {X:Cx}
noncomputable def Ah (K:PySem.W.Frag):R2:=fun x y H Q=>∃ p q xs,x = .ref p∧y = .ref q∧aO K H p xs∧aO K H q []∧Q (.bl (!decide (xs=[]))) H
theorem wv {k:Nat}(hr:Room k X.A):eZ X (compareOp .NotEq) (Ah X.K):=by
 intro pins s σ H x y v u Q I rx ry h
 obtain ⟨p,q,xs,rfl,rfl,h1,h2,w⟩:=h
 by_cases e:xs=[]
 ·subst e
  refine iu hr pins s σ H _ _ v u Q I rx ry ⟨.lst [],.lst [],?_,?_,by decide,w⟩
  ·unfold aI; exact ⟨p,[],rfl,h1,by unfold ba; rfl⟩
  ·unfold aI; exact ⟨q,[],rfl,h2,by unfold ba; rfl⟩
 ·cases (show v=Value.ref p from rx)
  cases (show u=Value.ref q from ry)
  obtain ⟨its,r1,p1,_⟩:=I.list h1
  obtain ⟨its2,r2,p2,_⟩:=I.list h2
  cases r2
  have hl:=r1.length
  have hx:xs.length≠0:=fun z=>e (List.eq_nil_of_length_eq_zero z)
  have hs:(its.toArray.size != ([]:List Value).toArray.size)=true:=by
   have:its.toArray.size≠0:=by rw [List.size_toArray]; omega
   simpa using this
  exact SeqAt.RcNeAt.lists_lengths p1.isList p2.isList hs hr.units0 X.prog X.w X.xe _ ⟨.bl true,H,I,rfl,by simpa [e] using w⟩
end
end L2
namespace K07
open PySem L2 PySem.W Nm Srt
noncomputable abbrev ic:Stmt:=a9 (aY 30) 14
noncomputable def CS (sc osc:Scope):Scope:={ sc with names:=sc.names.map fun (n,k)=>if (k == .free&&osc.kind == .function&&osc.names.lookup n == some .cell) then (n,.cell) else (n,k) }
noncomputable def zT (ns:List Int):List Int:=ns.mergeSort fun a b=>decide (a≤b)
theorem rQ {ms ns:List Int}(p:ms.Perm ns)(h:ms.Pairwise (· ≤ ·)):ms=zT ns:=by
 have h2:(zT ns).Pairwise (· ≤ ·):=by
  have z:=List.pairwise_mergeSort (le:=fun a b:Int=>decide (a≤b)) (by simp; intro a b c; omega) (by simp; intro a b; omega) ns
  exact z.imp fun h=>of_decide_eq_true h
 exact List.Perm.eq_of_pairwise (le:=fun a b:Int=>a≤b) (fun a b _ _ h1 h2=>Int.le_antisymm h1 h2) h h2 (p.trans (List.mergeSort_perm ns _).symm)
noncomputable def BW (ns:List Int)(t:Tm):Tm:=(zT (t.1.map fun k=>ns.getD k.toNat 0),t.2)
noncomputable def dq (r:Int)(o:Option (List V)):Bool:=jW o&&decide (r≤((o.getD []).length:Int))
noncomputable def d9 (C CF NO:Addr):Sp:=fun vs H Q E=>∃ (s dx fl dxf D:Addr)(p:Int)(zs:List V)(ts:List Tm)(m:Nat)(x:V)(o:Option (List V)),vs=[.ref s,x]∧SumAt C CF H s dx fl dxf D p zs ts∧pX p m ts∧LX H x o ∧
 (dq (ay ts) o=false->∀ H',au H H'->E (.ref NO) none H') ∧
 (∀ ns:List Int,dq (ay ts) o=true->o=some (ns.map V.int)->(∀ n∈ns,0≤n∧n < 60)->ns.Nodup->ay ts≤ns.length->∀ H' s' dx' D' zs',au H H'->H' s'=some (.ins C dx' (n5 fl D'))->H' D'=some (.lst zs')->a8 H' zs' (cC (aV p (ts.map (BW ns))))->Q (.ref s') H')
theorem tN:FnScope ["self","order"] ["self","order"] (aj ic):=⟨rfl,rfl,rfl,by decide +kernel,rfl,by decide +kernel,by decide +kernel⟩
theorem tH {ns:List Int}(h:(ns.map V.int).all aS=true):∀ n∈ns,0≤n∧n < 60:=by
 intro n hn
 have z:=(List.all_eq_true.mp h) (V.int n) (List.mem_map.mpr ⟨n,hn,rfl⟩)
 have z:(decide (0≤n)&&decide (n < 60))=true:=z
 rw [Bool.and_eq_true] at z
 exact ⟨of_decide_eq_true z.1,of_decide_eq_true z.2⟩
section
variable {P:Program}{w:World}{K:PySem.W.Frag}{mg:Str->Option Value}{base:Heap}
theorem qk {f C CF NO fo fr fu:Addr}{fd fdo fdr fdu:FuncData}(F:Fun K "renamed" "Sum.renamed" ic f fd)(c:SumK K mg C)(m_len:mg "len"=none)(m_tuple:mg "tuple"=none)(m_sorted:mg "sorted"=none)
 (FO:FnOk P w K mg base (aU P w) 3 fo fdo ["thing"] spOrder)(bO:L2.ax K fdo ["thing"] [])(mO:mg "is_order"=some (.ref fo))(kO:keepIn K (.ref fo)=true)
 (FR:FnOk P w K mg base (aU P w) 1 fr fdr ["self"] (nX C))(bR:L2.ax K fdr ["self"] [])(mR:L2.Meth K C "reach" fr)
 (FU:FnOk P w K mg base (aU P w) 8 fu fdu ["field","terms"] (su C CF))(bU:L2.ax K fdu ["field","terms"] [])(mU:mg "built"=some (.ref fu))(kU:keepIn K (.ref fu)=true)
 (mN:mg "NoOrder"=some (.ref NO))(qN:excIn K NO xt mZ=true):FnOk P w K mg base (aU P w) 9 f fd ["self","order"] (d9 C CF NO):=by
 refine F.okE tN (fun vs H Q E h=>?_) (fun cdv A outer s H vs Q E hr h=>?_)
 ·obtain ⟨s,dx,fl,dxf,D,p,zs,ts,m,x,o,rfl,_⟩:=h
  rfl
 ·obtain ⟨s0,dx,fl,dxf,D,p,zs,ts,m,x,o,rfl,S,ok,px,qE,q⟩:=h
  have hr8:Room 8 _:=hr.mono (by decide)
  have hr3:Room 3 _:=hr.mono (by decide)
  have hr1:Room 1 _:=hr.mono (by decide)
  obtain ⟨h64,hG,hm,hm2⟩:=ok
  refine ⟨_,(ai (a7 (PW.pt (dQ (bY (bw (aq FO hr3 (by rfl) mO kO bO .nil ae (@ag _ _ _ _ _ (pv 1) ad rfl)))) (cN (@aF _ _ _ _ _ _ _ _ fM (ar aQ (by rfl) m_len PySem.boot_len (@ag _ _ _ _ _ (pv 1) ad rfl)) (eC (pv 0) c.cl mR FR hr1 bR .nil ae) (aG _))))) (am (d8 PySem.F.excBase_ValueError qN rfl db (by rfl) mN (@ag _ _ _ _ _ cn ad rfl))) aC)
   (am (av (aq FU hr8 (by rfl) mU kU bU .nil ae (@ag _ _ _ _ _ (cp (pv 0) rfl) (@ag _ _ _ _ _ (cg (g:=lz K 2 (cP (bD 0) (cP (bD 1) gNil))) (te:=yx (cf (AG (qA K) (cf (AG (qB K) (cf (sJ (ym K (c7 0)) (bD 0) tYes (pJ (yc K) (c7 1) (c7 0)) 1 [2]) tNil)) tNil)) (cf (c7 1) tNil))) (N:=["product","number","order"]) (nl:=2) (js:=[1]) (osc:=aj ic) ⟨rfl,rfl,by decide +kernel,by decide +kernel,by decide +kernel,rfl,(.cons ⟨rfl,by decide +kernel⟩ .nil),by decide +kernel⟩ rfl
    (cK (cp (pv 0) rfl))
    (fun C fp s H=>(cV (X:=d6 _ ["product","number","order"] _ C fp s H) rfl (aL (aE (X:=d6 _ ["product","number","order"] _ C fp s H) (i:=0) (by show (["product","number","order"]:List Str).Nodup; decide +kernel) rfl (Or.inl rfl) (Or.inr rfl)) (aL (aE (X:=d6 _ ["product","number","order"] _ C fp s H) (i:=1) (by show (["product","number","order"]:List Str).Nodup; decide +kernel) rfl (Or.inl rfl) (Or.inr rfl)) cw))))
    (fun C fp s H=>cL)
    (fun C fp s H=>(@bH _ _ _ _ _ (@ag _ _ _ _ _ (b8 (j7 rfl) (by rfl) m_tuple (by rfl) (@ag _ _ _ _ _ (ar (sv rfl) (by rfl) m_sorted (by rfl) (@ag _ _ _ _ _ (cg (N:=["place","order"]) (nl:=1) (js:=[2]) (osc:=CS _ (aj ic)) ⟨rfl,rfl,by decide +kernel,by decide +kernel,by decide +kernel,rfl,(.cons ⟨rfl,by decide +kernel⟩ .nil),by decide +kernel⟩ rfl
    (y7 rfl (pv 0))
    (fun C fp s H=>aE (i:=0) (by show (["place","order"]:List Str).Nodup; decide +kernel) rfl (Or.inl rfl) (Or.inr rfl))
    (fun C fp s H=>cL)
    (fun C fp s H=>(@aW _ _ _ _ _ _ _ (zc rfl) (pv 1) (pv 0) (fun _ _=>rfl)))) ad rfl)) ad rfl)) (@ag _ _ _ _ _ (pv 1) ad rfl) rfl)))) ad rfl) rfl))))),?_⟩
  refine ⟨_,rfl,x,o,rfl,px,fun H1 s1=>⟨_,rfl,?_⟩⟩
  cases eb:jW o with
  | false=>exact br (br ⟨by decide,qE (by unfold dq; rw [eb]; rfl) H1 s1⟩)
  | true =>
    refine bx ?_
    cases px with
    | no=>cases eb
    | @lst a xs ha hl hth =>
      have ha1:=s1 _ _ ha
      have S1:=S.same s1
      refine ⟨_,rfl,a,xs,rfl,.inl (aO.of ha1),_,rfl,s0,dx,_,rfl,S1.hs,rfl,s0,dx,fl,D,zs,ts,rfl,S1.hs,S1.hD,S1.hz,by omega,fun t ht=>by have:=(hG t ht).2.2.2; omega,fun H2 s2=>?_⟩
      refine ⟨_,_,rfl,rfl,_,rfl,?_⟩
      have s12:=s1.trans s2
      refine b7 (fun h=>?_) (fun h=>?_)
      ·have h':((xs.length:Nat):Int) < ay ts:=by simpa using h
       refine ⟨by decide,qE ?_ H2 s12⟩
       unfold dq
       rw [Bool.and_eq_false_iff]
       exact .inr (decide_eq_false (by show ¬ ay ts≤(xs.length:Int); omega))
      ·have h':¬ ((xs.length:Nat):Int) < ay ts:=by simpa using h
       have eb':(xs.all aS&&decide xs.Nodup)=true:=eb
       rw [Bool.and_eq_true] at eb'
       obtain ⟨ns,rfl⟩:=jr eb'.1
       rw [List.length_map] at h' hl
       have hob:dq (ay ts) (some (ns.map V.int))=true:=by
        unfold dq
        rw [eb,Bool.true_and]
        refine decide_eq_true ?_
        show ay ts≤((ns.map V.int).length:Int)
        rw [List.length_map]; omega
       have q':=q ns hob rfl (tH eb'.1) (dD.mp (of_decide_eq_true eb'.2)) (by omega)
       have S2:=S.same s12
       have hlen:=S.hz.length
       refine ⟨_,rfl,s0,C,dx,_,_,rfl,S2.hs,c.cl,c.nF,rfl,_,rfl,s0,C,dx,_,_,rfl,S2.hs,c.cl,c.nT,rfl,D,rfl,⟨zs,aO.of S2.hD⟩,?_⟩
       refine iM (xs:=zs) (fun i ys H'=>au H H'∧a8 H' ys ((ts.take i).map (BW ns))) ⟨s12,.nil⟩ (fun i ys H' hi h=>?_) (fun i y ys H' hi hy h=>?_) (fun ys H' h=>?_)
       ·refine ⟨?_,aO.of (h.1 _ _ S.hD)⟩
        rw [h.2.length,List.length_map]
        exact Nat.lt_of_le_of_lt (by simp; omega) (Nat.lt_trans h64 (by decide))
       ·obtain ⟨sH,hys⟩:=h
        obtain ⟨t,et,tr⟩:=bJ S.hz hy
        obtain ⟨at_,pr,nu,rfl,hat,hpr,hnu⟩:=tr.keep (aA.of sH)
        have tm:=List.mem_of_getElem? et
        obtain ⟨gt,pw,k0,kl⟩:=hG t tm
        have esn:ts.take (i + 1)=ts.take i++[t]:=by rw [List.take_add_one,et]; rfl
        have haH:=sH _ _ ha
        refine ⟨at_,.ref pr,.ref nu,rfl,bc.of hat,fun N k=>ud ?_⟩
        refine ⟨_,rfl,pr,rfl,⟨_,bc.of hpr⟩,?_⟩
        refine hJ (xs:=t.1.map V.int) (fun j us H3=>H'=H3∧us=((t.1.take j).map fun k=>ns.getD k.toNat 0).map V.int) ⟨rfl,rfl⟩ (fun j us H3 hj h=>?_) (fun j x us H3 N hj hx h k=>?_) (fun us H3 h=>?_)
        ·obtain ⟨rfl,rfl⟩:=h
         exact ⟨Nat.lt_of_le_of_lt (by simp; omega) (Nat.lt_trans kl (by decide)),bc.of hpr⟩
        ·obtain ⟨rfl,rfl⟩:=h
         have hj':j < t.1.length:=by simpa using hj
         have ex:t.1[j]?=some t.1[j]:=by simp [hj']
         have ev:x = .int t.1[j]:=by
          rw [List.getElem?_map,ex] at hx
          exact (Option.some.inj hx).symm
         subst ev
         have km:=List.getElem_mem hj'
         have k1:=gU tm pw km
         have ek:t.1.take (j + 1)=t.1.take j++[t.1[j]]:=by rw [List.take_add_one,ex]; rfl
         refine ud ⟨_,rfl,_,rfl,a,_,_,_,rfl,rfl,aO.of haH,n6 (k0 _ km) (by omega),k _ _ ⟨rfl,?_⟩⟩
         rw [ek,List.map_append,List.map_append]
         rfl
        ·obtain ⟨rfl,rfl⟩:=h
         intro L hL
         rw [List.length_map,List.take_length]
         have sL:au H' (upd H' L (.lst ((t.1.map fun k=>ns.getD k.toNat 0).map V.int))):=ak hL
         refine ⟨L,_,rfl,aO.of ac,by rw [List.length_map]; exact kl,fun D2 ms hD2 perm pwm=>?_⟩
         have em:=rQ perm pwm
         subst em
         refine ⟨D2,_,rfl,.inl ⟨aO.of ac,fun a2 ha2=>?_⟩⟩
         refine ⟨_,rfl,(by show 2≤sizeLine; decide),fun tu htu=>k _ _ ?_⟩
         have s5:=((sL.trans (ak hD2)).trans (ak ha2)).trans (ak (o:=.tup [.ref a2,.ref nu]) htu)
         refine ⟨sH.trans s5,?_⟩
         rw [esn,List.map_append]
         refine Paired.snoc (a8.keep hys (aA.of s5)) ⟨tu,a2,nu,rfl,ac,?_,s5 _ _ hnu⟩
         rw [al (ap ac htu)]
         exact ac
       ·obtain ⟨sH,hys⟩:=h
        rw [hlen,List.take_length] at hys
        intro L hL
        have sL:au H' (upd H' L (.lst ys)):=ak hL
        have sA:=sH.trans sL
        refine ⟨fl,dxf,L,p,ys,_,m,rfl,sA _ _ S.hf,S.hp,ac,a8.keep hys (aA.of sL),by rw [List.length_map]; exact h64,fun t ht=>?_,by rw [List.length_map]; exact hm,hm2,fun H9 s' dx' D' zs' s9 e1 e2 e3=>q' H9 s' dx' D' zs' (sA.trans s9) e1 e2 e3⟩
        obtain ⟨t0,h0,rfl⟩:=List.mem_map.mp ht
        exact (hG t0 h0).1
end
noncomputable abbrev nj:Stmt:=aY 54
theorem zf {K:Frag}{H:Hp}:∀ ns:List Int,ba K H (ns.map D.int) (ns.map V.int)
 | []=>by unfold ba; rfl
 | n :: ns=>by
   show ba K H (D.int n :: ns.map D.int) (V.int n :: ns.map V.int)
   unfold ba
   exact ⟨_,_,rfl,by unfold aI; rfl,zf ns⟩
theorem AX:∀ ns:List Int,eE (ns.map D.int)=0
 | []=>rfl
 | n :: ns=>by
   show max 0 (eE (ns.map D.int))=0
   rw [AX ns]
   rfl
theorem jR {K:Frag}{H:Hp}{a:Addr}{ns:List Int}(h:H a=some (.tup (ns.map V.int))):aI K H (.tup (ns.map D.int)) (.ref a):=by
 unfold aI
 exact ⟨a,_,rfl,bc.of h,zf ns⟩
theorem rq (ns:List Int):jl (.tup (ns.map D.int))=1:=by unfold jl; rw [AX]
theorem xv (ns:List Int):dX (.tup (ns.map D.int)) (.tup [])=ns.isEmpty:=by
 cases ns with
 | nil=>rfl
 | cons n ns=>rfl
noncomputable def spLReach:Sp:=fun vs H Q _=>∃ (l:Addr)(ys:List V)(ts:List Tm),vs=[.ref l]∧H l=some (.lst ys)∧a8 H ys ts∧ts.length < 64∧(∀ t∈ts,A8 t.1)∧∀ H',au H H'->Q (.int (ay ts)) H'
theorem wj:FnScope ["_law_terms_here"] ["_law_terms_here"] (aj nj):=⟨rfl,rfl,rfl,by decide +kernel,rfl,by decide +kernel,by decide +kernel⟩
theorem uF {ts:List Tm}(h:∀ t∈ts,A8 t.1){m:Int}(hm:m∈(ts.filter fun t=>!t.1.isEmpty).map lastP++[0])(hx:∀ a∈(ts.filter fun t=>!t.1.isEmpty).map lastP++[0],a≤m):m=ay ts:=by
 unfold ay
 by_cases ne:(ts.filter fun t=>!t.1.isEmpty).map lastP=[]
 ·rw [ne] at hm ⊢
  have:m=0:=by simpa using hm
  rw [this]
  rfl
 ·obtain ⟨b,e,b1,b2⟩:=gm ne
  rw [e]
  show m=b
  have h1:=hx b (List.mem_append_left _ b1)
  rcases List.mem_append.mp hm with hm | hm
  ·have:=b2 m hm; omega
  ·have hm0:m=0:=by simpa using hm
   obtain ⟨t,ht,rfl⟩:=List.mem_map.mp b1
   obtain ⟨ht1,ht2⟩:=List.mem_filter.mp ht
   have ne1:t.1≠[]:=by intro z; rw [z] at ht2; cases ht2
   obtain ⟨k,r,ek⟩:=List.exists_cons_of_ne_nil ne1
   obtain ⟨p1,p2,p3⟩:=h t ht1
   have km:k∈t.1:=by rw [ek]; exact List.mem_cons_self
   have h3:=gZ 0 p1 km
   have h4:=p2 k km
   unfold lastP at h1
   omega
theorem vR {ts:List Tm}(h:∀ t∈ts,A8 t.1):0≤ay ts:=by
 unfold ay
 by_cases ne:(ts.filter fun t=>!t.1.isEmpty).map lastP=[]
 ·rw [ne]; exact Int.le_refl _
 ·obtain ⟨b,e,b1,b2⟩:=gm ne
  rw [e]
  show 0≤b
  obtain ⟨t,ht,rfl⟩:=List.mem_map.mp b1
  obtain ⟨ht1,ht2⟩:=List.mem_filter.mp ht
  have ne1:t.1≠[]:=by intro z; rw [z] at ht2; cases ht2
  obtain ⟨k,r,ek⟩:=List.exists_cons_of_ne_nil ne1
  obtain ⟨p1,p2,p3⟩:=h t ht1
  have km:k∈t.1:=by rw [ek]; exact List.mem_cons_self
  have h3:=gZ 0 p1 km
  have h4:=p2 k km
  unfold lastP
  omega
theorem vv {ts:List Tm}{n:Int}(hn:0≤n)(h:∀ t∈ts,∀ k∈t.1,k < n):ay ts≤n:=by
 unfold ay
 by_cases ne:(ts.filter fun t=>!t.1.isEmpty).map lastP=[]
 ·rw [ne]; exact hn
 ·obtain ⟨b,e,b1,b2⟩:=gm ne
  rw [e]
  show b≤n
  obtain ⟨t,ht,rfl⟩:=List.mem_map.mp b1
  obtain ⟨ht1,ht2⟩:=List.mem_filter.mp ht
  have ne1:t.1≠[]:=by intro z; rw [z] at ht2; cases ht2
  have:t.1.getLastD 0∈t.1:=by
   rw [List.getLastD_eq_getLast?,List.getLast?_eq_some_getLast ne1]
   exact List.getLast_mem ne1
  have:=h t ht1 _ this
  unfold lastP
  omega
section
variable {P:Program}{w:World}{K:PySem.W.Frag}{mg:Str->Option Value}{base:Heap}
theorem tQ {f:Addr}{fd:FuncData}(F:Fun K "_law_reach" "_law_reach" nj f fd)(m_max:mg "max"=none):FnOk P w K mg base (aU P w) 1 f fd ["_law_terms_here"] spLReach:=by
 refine F.okN wj (fun vs H Q E h=>?_) (fun cdv A outer s H vs Q E hr h=>?_)
 ·obtain ⟨l,ys,ts,rfl,_⟩:=h
  rfl
 ·obtain ⟨l,ys,ts,rfl,hl,hz,h64,hP,q⟩:=h
  refine ⟨_,(am (av (ar (uQ rfl) (by rfl) m_max (by rfl) (@ag _ _ _ _ _ (@az _ _ _ _ _ _ _ _ ql (cg (g:=lz K 2 (cP (bD 0) (cP (bD 1) gNil))) (N:=["_law_product_here","_law_number_here"]) (nl:=2) (js:=[]) (osc:=aj nj) ⟨rfl,rfl,by decide +kernel,by decide +kernel,by decide +kernel,rfl,.nil,by decide +kernel⟩ rfl
   (cK (pv 0))
   (fun C fp s H=>(cV (X:=d6 _ ["_law_product_here","_law_number_here"] _ C fp s H) rfl (aL (aE (X:=d6 _ ["_law_product_here","_law_number_here"] _ C fp s H) (i:=0) (by show (["_law_product_here","_law_number_here"]:List Str).Nodup; decide +kernel) rfl (Or.inl rfl) (Or.inr rfl)) (aL (aE (X:=d6 _ ["_law_product_here","_law_number_here"] _ C fp s H) (i:=1) (by show (["_law_product_here","_law_number_here"]:List Str).Nodup; decide +kernel) rfl (Or.inl rfl) (Or.inr rfl)) cw))))
   (fun C fp s H=>(dY (@aF _ _ _ _ _ _ _ _ (show eZ _ _ (xR K true) from iu hr) (pv 0) (@bH _ _ _ _ _ ad) (aG _))))
   (fun C fp s H=>(@az _ _ _ _ _ _ _ _ cr (@aW _ _ _ _ _ _ _ (AN (K:=K) rfl) (pv 0) (rZ nY ah) (fun _ _=>rfl)) ah))) (@bq _ _ _ _ (@ag _ _ _ _ _ ah ad rfl))) ad rfl)))),?_⟩
  refine ⟨_,rfl,l,rfl,⟨ys,aO.of hl⟩,?_⟩
  have zl:=hz.length
  refine iM (xs:=ys) (fun i us H'=>au H H'∧us=(((ts.take i).filter fun t=>!t.1.isEmpty).map lastP).map V.int) ⟨au.refl _,rfl⟩ (fun i us H' hi h=>?_) (fun i y us H' hi hy h=>?_) (fun us H' h=>?_)
  ·obtain ⟨sH,rfl⟩:=h
   refine ⟨?_,aO.of (sH _ _ hl)⟩
   rw [List.length_map,List.length_map]
   exact Nat.lt_of_le_of_lt (List.length_filter_le _ _) (Nat.lt_of_le_of_lt (by simp; omega) (Nat.lt_trans h64 (by decide)))
  ·obtain ⟨sH,rfl⟩:=h
   obtain ⟨t,et,tr⟩:=bJ hz hy
   obtain ⟨at_,pr,nu,rfl,hat,hpr,hnu⟩:=tr.keep (aA.of sH)
   have esn:ts.take (i + 1)=ts.take i++[t]:=by rw [List.take_add_one,et]; rfl
   refine ⟨at_,.ref pr,.ref nu,rfl,bc.of hat,fun N k=>?_⟩
   refine ⟨_,rfl,Nat.zero_le _,fun e he=>?_⟩
   have se:au H' (upd H' e (.tup [])):=ak he
   refine ⟨_,_,jR (se _ _ hpr),jR (ns:=[]) ac,by rw [rq]; decide,_,rfl,?_⟩
   show if (dX (.tup (t.1.map D.int)) (.tup []) != true)=true then _ else _
   rw [xv]
   cases hb:t.1.isEmpty with
   | false =>
     have ne:t.1≠[]:=by intro z; rw [z] at hb; cases hb
     refine br ⟨_,rfl,_,rfl,pr,_,-1,_,rfl,rfl,bc.of (se _ _ hpr),tD ne,_,_,rfl,rfl,k _ _ ⟨sH.trans se,?_⟩⟩
     rw [esn,List.filter_append]
     simp [hb,lastP]
   | true =>
     refine bx (k _ _ ⟨sH.trans se,?_⟩)
     rw [esn,List.filter_append]
     simp [hb]
  ·obtain ⟨sH,rfl⟩:=h
   intro L hL
   rw [zl,List.take_length]
   refine ⟨by show 1≤sizeLine; decide,fun L2 hL2=>?_⟩
   have sL:au H' (upd H' L (.lst (((ts.filter fun t=>!t.1.isEmpty).map lastP).map V.int))):=ak hL
   have s2:=ak (o:=.lst [.int 0]) hL2
   refine ⟨L,L2,_,_,rfl,rfl,s2 _ _ ac,ac,?_,fun L3 hL3=>?_⟩
   ·rw [List.length_map,List.length_map]
    have:=List.length_filter_le (fun t:Tm=>!t.1.isEmpty) ts
    exact Nat.le_trans (show _≤100 by simp; omega) (by decide)
   refine ⟨L3,(ts.filter fun t=>!t.1.isEmpty).map lastP++[0],rfl,aO.of ?_,by simp,fun m hm hx=>?_⟩
   ·rw [List.map_append]
    exact ac
   ·rw [uF hP hm hx]
    exact q _ (sH.trans ((sL.trans s2).trans (ak hL3)))
end
noncomputable abbrev zO:Stmt:=aY 57
noncomputable abbrev Am:Stmt:=aY 58
noncomputable def spLIsF:Sp:=fun vs H Q _=>∃ (x:V)(r:Int)(o:Option (List V)),vs=[x,.int r]∧PX H x o∧∀ H',au H H'->Q (.bl (ci r o)) H'
noncomputable def spLIsO:Sp:=fun vs H Q _=>∃ (x:V)(r:Int)(o:Option (List V)),vs=[x,.int r]∧LX H x o∧∀ H',au H H'->Q (.bl (dq r o)) H'
theorem A4:FnScope ["_law_thing","_law_reach_here"] ["_law_thing","_law_reach_here"] (aj zO):=⟨rfl,rfl,rfl,by decide +kernel,rfl,by decide +kernel,by decide +kernel⟩
theorem Bs:FnScope ["_law_thing","_law_reach_here"] ["_law_thing","_law_reach_here"] (aj Am):=⟨rfl,rfl,rfl,by decide +kernel,rfl,by decide +kernel,by decide +kernel⟩
theorem jE {α:Type}{f:α->Bool}{xs:List α}:decide (xs.filter (fun x=>!f x)=[])=xs.all f:=by
 induction xs with
 | nil=>rfl
 | cons x xs ih =>
   rw [List.all_cons]
   cases h:f x with
   | true=>rw [List.filter_cons_of_neg (by rw [h]; decide),Bool.true_and]; exact ih
   | false=>rw [List.filter_cons_of_pos (by rw [h]; rfl),Bool.false_and]; rfl
section
variable {P:Program}{w:World}{K:PySem.W.Frag}{mg:Str->Option Value}{base:Heap}
theorem yd {f fw:Addr}{fd fdw:FuncData}(F:Fun K "_law_is_filling" "_law_is_filling" zO f fd)(m_isinstance:mg "isinstance"=none)(m_tuple:mg "tuple"=none)(m_len:mg "len"=none)
 (FW:FnOk P w K mg base (aU P w) 1 fw fdw ["_law_thing"] spWhole)(bW:L2.ax K fdw ["_law_thing"] [])(mW:mg "_law_whole"=some (.ref fw))(kW:keepIn K (.ref fw)=true):
 FnOk P w K mg base (aU P w) 2 f fd ["_law_thing","_law_reach_here"] spLIsF:=by
 refine F.okN A4 (fun vs H Q E h=>?_) (fun cdv A outer s H vs Q E hr h=>?_)
 ·obtain ⟨x,r,o,rfl,_⟩:=h
  rfl
 ·obtain ⟨x,r,o,rfl,px,q⟩:=h
  have hr1:Room 1 _:=hr.mono (by decide)
  refine ⟨_,(ai (a7 (PW.pt (dQ (bY (bw (ar aN (by rfl) m_isinstance (by rfl) (@ag _ _ _ _ _ (pv 0) (@ag _ _ _ _ _ (ck (by rfl) m_tuple (by rfl) (show aB (.ty "tuple") (.type "tuple") from rfl)) ad rfl) rfl)))) (cN (@aF _ _ _ _ _ _ _ _ fM (ar aQ (by rfl) m_len PySem.boot_len (@ag _ _ _ _ _ (pv 0) ad rfl)) (pv 1) (aG _))))) (am (av c9)) aC)
   (am (av (@cX _ _ _ _ _ _ _ _ (oC hr) (cg (N:=["_law_one"]) (nl:=1) (js:=[]) (osc:=aj zO) ⟨rfl,rfl,by decide +kernel,by decide +kernel,by decide +kernel,rfl,.nil,by decide +kernel⟩ rfl
    (iO (pv 0))
    (fun C fp s H=>aE (i:=0) (by show (["_law_one"]:List Str).Nodup; decide +kernel) rfl (Or.inl rfl) (Or.inr rfl))
    (fun C fp s H=>(dY (PW.pt (dQ (bY (bw (aq FW hr1 (by rfl) mW kW bW .nil ae (@ag _ _ _ _ _ (pv 0) ad rfl)))) (cN (bY (ow kh kh ah (pv 0) ah)))))))
    (fun C fp s H=>(pv 0))) (@bq _ _ _ _ ad) (aG _))))),?_⟩
  cases px with
  | @no x T th ne =>
    refine ⟨_,rfl,x,.ty "tuple",_,_,_,rfl,rfl,th.ty,th.isTup,_,rfl,?_⟩
    rw [decide_eq_false ne]
    exact br (br (q _ (au.refl _)))
  | @tup a xs ha hl hth =>
    refine ⟨_,rfl,.ref a,.ty "tuple",_,_,_,rfl,rfl,.of (.tup ha),rfl,_,rfl,bx ?_⟩
    refine ⟨_,rfl,a,xs,rfl,.inr (bc.of ha),_,rfl,_,_,rfl,rfl,_,rfl,?_⟩
    refine b7 (fun h=>?_) (fun h=>?_)
    ·have h':((xs.length:Nat):Int) < r:=by simpa using h
     have z:ci r (some xs)=false:=by
      unfold ci
      rw [Bool.and_eq_false_iff]
      exact .inr (decide_eq_false (by show ¬ r≤(xs.length:Int); omega))
     rw [z] at q
     exact q _ (au.refl _)
    ·have h':¬ ((xs.length:Nat):Int) < r:=by simpa using h
     have z:ci r (some xs)=xs.all bitB:=by
      unfold ci
      rw [decide_eq_true (by show r≤(xs.length:Int); omega),Bool.and_true]
      rfl
     rw [z] at q
     refine ⟨_,rfl,a,rfl,⟨xs,bc.of ha⟩,?_⟩
     refine hJ (xs:=xs) (fun i us H'=>H=H'∧us=(xs.take i).filter fun x=>!bitB x) ⟨rfl,rfl⟩ (fun i us H' hi h=>?_) (fun i y us H' N hi hy h k=>?_) (fun us H' h=>?_)
     ·obtain ⟨rfl,rfl⟩:=h
      exact ⟨Nat.lt_of_le_of_lt (List.length_filter_le _ _) (Nat.lt_of_le_of_lt (by simp; omega) (Nat.lt_trans hl (by decide))),bc.of ha⟩
     ·obtain ⟨rfl,rfl⟩:=h
      obtain ⟨T,th⟩:=hth y (List.mem_of_getElem? hy)
      have e2:xs.take (i + 1)=xs.take i++[y]:=by rw [List.take_add_one,hy]; rfl
      have bad:bitB y=false->(c7 0 (some y :: []) H fun y' H5=>N ((xs.take i).filter (fun x=>!bitB x)++[y']) H5):=fun e=>⟨_,rfl,k _ _ ⟨rfl,by rw [e2,List.filter_append,List.filter_cons_of_pos (by rw [e]; rfl)]; rfl⟩⟩
      have good_:bitB y=true->N ((xs.take i).filter fun x=>!bitB x) H:=fun e=>k _ _ ⟨rfl,by rw [e2,List.filter_append,List.filter_cons_of_neg (by rw [e]; decide)]; simp⟩
      refine ⟨_,rfl,y,T,rfl,th,_,rfl,?_⟩
      cases e:cB y with
      | false =>
        have z:bitB y=false:=by cases y <;> first | rfl | cases e
        exact br (br (bad z))
      | true =>
        have z1:∃ n,y = .int n:=by cases y <;> first | exact ⟨_,rfl⟩ | cases e
        obtain ⟨n,rfl⟩:=z1
        refine bx ⟨_,rfl,_,_,rfl,rfl,_,rfl,?_⟩
        refine b7 (fun h=>?_) (fun h=>?_)
        ·have h':decide (0≤n)=true:=h
         refine ⟨_,_,rfl,rfl,_,rfl,?_⟩
         have e3:bitB (.int n)=decide (n≤1):=by show (decide (0≤n)&&decide (n≤1))=_; rw [h',Bool.true_and]
         cases e4:decide (n≤1) with
         | true=>exact bx (good_ (e3.trans e4))
         | false=>exact br (bad (e3.trans e4))
        ·have h':decide (0≤n)=false:=by simpa using h
         exact ⟨_,rfl,br (bad (by show (decide (0≤n)&&decide (n≤1))=_; rw [h',Bool.false_and]))⟩
     ·obtain ⟨rfl,rfl⟩:=h
      intro L hL
      rw [List.take_length]
      refine ⟨Nat.zero_le _,fun L2 hL2=>?_⟩
      have s2:=ak (o:=.lst []) hL2
      refine ⟨L,L2,_,rfl,rfl,aO.of (s2 _ _ ac),aO.of ac,?_⟩
      rw [jE]
      exact q _ ((ak hL).trans s2)
theorem xK {f fw:Addr}{fd fdw:FuncData}(F:Fun K "_law_is_order" "_law_is_order" Am f fd)(m_isinstance:mg "isinstance"=none)(m_list:mg "list"=none)(m_len:mg "len"=none)(m_set:mg "set"=none)
 (FW:FnOk P w K mg base (aU P w) 1 fw fdw ["_law_thing"] spWhole)(bW:L2.ax K fdw ["_law_thing"] [])(mW:mg "_law_whole"=some (.ref fw))(kW:keepIn K (.ref fw)=true):
 FnOk P w K mg base (aU P w) 2 f fd ["_law_thing","_law_reach_here"] spLIsO:=by
 refine F.okN Bs (fun vs H Q E h=>?_) (fun cdv A outer s H vs Q E hr h=>?_)
 ·obtain ⟨x,r,o,rfl,_⟩:=h
  rfl
 ·obtain ⟨x,r,o,rfl,px,q⟩:=h
  have hr1:Room 1 _:=hr.mono (by decide)
  refine ⟨_,(ai (a7 (PW.pt (dQ (bY (bw (ar aN (by rfl) m_isinstance (by rfl) (@ag _ _ _ _ _ (pv 0) (@ag _ _ _ _ _ (ck (by rfl) m_list (by rfl) (show aB (.ty "list") (.type "list") from rfl)) ad rfl) rfl)))) (cN (@aF _ _ _ _ _ _ _ _ fM (ar aQ (by rfl) m_len PySem.boot_len (@ag _ _ _ _ _ (pv 0) ad rfl)) (pv 1) (aG _))))) (am (av c9)) aC)
   (ai (a7 (@aF _ _ _ _ _ _ _ _ (wv hr) (cg (N:=["_law_one"]) (nl:=1) (js:=[]) (osc:=aj Am) ⟨rfl,rfl,by decide +kernel,by decide +kernel,by decide +kernel,rfl,.nil,by decide +kernel⟩ rfl
    (cK (pv 0))
    (fun C fp s H=>aE (i:=0) (by show (["_law_one"]:List Str).Nodup; decide +kernel) rfl (Or.inl rfl) (Or.inr rfl))
    (fun C fp s H=>(dY (PW.pt (dQ (bY (bw (aq FW hr1 (by rfl) mW kW bW .nil ae (@ag _ _ _ _ _ (pv 0) ad rfl)))) (cN (bY (ow kh fM ah (pv 0) ah)))))))
    (fun C fp s H=>(pv 0))) (@bq _ _ _ _ ad) (aG _)) (am (av c9)) aC)
   (am (av (@cX _ _ _ _ _ _ _ _ cI (mr (pv 0) rfl (by rfl) m_len (by rfl) m_set) (ar aQ (by rfl) m_len PySem.boot_len (@ag _ _ _ _ _ (pv 0) ad rfl)) (aG _)))))),?_⟩
  cases px with
  | @no x T th ne =>
    refine ⟨_,rfl,x,.ty "list",_,_,_,rfl,rfl,th.ty,th.isLst,_,rfl,?_⟩
    rw [decide_eq_false ne]
    exact br (br (q _ (au.refl _)))
  | @lst a xs ha hl hth =>
    refine ⟨_,rfl,.ref a,.ty "list",_,_,_,rfl,rfl,.of (.lst ha),rfl,_,rfl,bx ?_⟩
    refine ⟨_,rfl,a,xs,rfl,.inl (aO.of ha),_,rfl,_,_,rfl,rfl,_,rfl,?_⟩
    refine b7 (fun h=>?_) (fun h=>?_)
    ·have h':((xs.length:Nat):Int) < r:=by simpa using h
     have z:dq r (some xs)=false:=by
      unfold dq
      rw [Bool.and_eq_false_iff]
      exact .inr (decide_eq_false (by show ¬ r≤(xs.length:Int); omega))
     rw [z] at q
     exact q _ (au.refl _)
    ·have h':¬ ((xs.length:Nat):Int) < r:=by simpa using h
     have z:dq r (some xs)=(xs.all aS&&decide xs.Nodup):=by
      unfold dq
      rw [decide_eq_true (by show r≤(xs.length:Int); omega),Bool.and_true]
      rfl
     rw [z] at q
     refine ⟨_,rfl,a,rfl,⟨xs,aO.of ha⟩,?_⟩
     refine ww (xs:=xs) (fun i us H'=>H=H'∧us=(xs.take i).filter fun x=>!aS x) ⟨rfl,rfl⟩ (fun i us H' hi h=>?_) (fun i y us H' N hi hy h k=>?_) (fun us H' h=>?_)
     ·obtain ⟨rfl,rfl⟩:=h
      exact ⟨Nat.lt_of_le_of_lt (List.length_filter_le _ _) (Nat.lt_of_le_of_lt (by simp; omega) (Nat.lt_trans hl (by decide))),aO.of ha⟩
     ·obtain ⟨rfl,rfl⟩:=h
      obtain ⟨T,th⟩:=hth y (List.mem_of_getElem? hy)
      have e2:xs.take (i + 1)=xs.take i++[y]:=by rw [List.take_add_one,hy]; rfl
      have bad:aS y=false->(c7 0 (some y :: []) H fun y' H5=>N ((xs.take i).filter (fun x=>!aS x)++[y']) H5):=fun e=>⟨_,rfl,k _ _ ⟨rfl,by rw [e2,List.filter_append,List.filter_cons_of_pos (by rw [e]; rfl)]; rfl⟩⟩
      have good_:aS y=true->N ((xs.take i).filter fun x=>!aS x) H:=fun e=>k _ _ ⟨rfl,by rw [e2,List.filter_append,List.filter_cons_of_neg (by rw [e]; decide)]; simp⟩
      refine ⟨_,rfl,y,T,rfl,th,_,rfl,?_⟩
      cases e:cB y with
      | false =>
        have z:aS y=false:=by cases y <;> first | rfl | cases e
        exact br (br (bad z))
      | true =>
        have z1:∃ n,y = .int n:=by cases y <;> first | exact ⟨_,rfl⟩ | cases e
        obtain ⟨n,rfl⟩:=z1
        refine bx ⟨_,rfl,_,_,rfl,rfl,_,rfl,?_⟩
        refine b7 (fun h=>?_) (fun h=>?_)
        ·have h':decide (0≤n)=true:=h
         refine ⟨_,_,rfl,rfl,_,rfl,?_⟩
         have e3:aS (.int n)=decide (n < 60):=by show (decide (0≤n)&&decide (n < 60))=_; rw [h',Bool.true_and]
         cases e4:decide (n < 60) with
         | true=>exact bx (good_ (e3.trans e4))
         | false=>exact br (bad (e3.trans e4))
        ·have h':decide (0≤n)=false:=by simpa using h
         exact ⟨_,rfl,br (bad (by show (decide (0≤n)&&decide (n < 60))=_; rw [h',Bool.false_and]))⟩
     ·obtain ⟨rfl,rfl⟩:=h
      intro L hL
      rw [List.take_length]
      refine ⟨Nat.zero_le _,fun L2 hL2=>?_⟩
      have s2:=ak (o:=.lst []) hL2
      have sA:=(ak (o:=.lst (xs.filter fun x=>!aS x)) hL).trans s2
      refine ⟨L,L2,_,rfl,rfl,aO.of (s2 _ _ ac),aO.of ac,_,rfl,?_⟩
      rw [jE]
      cases hp:xs.all aS with
      | false =>
        rw [hp] at q
        exact br (q _ sA)
      | true =>
        rw [hp,Bool.true_and] at q
        refine bx ?_
        obtain ⟨ns,rfl⟩:=jr hp
        have ha1:=sA _ _ ha
        refine ⟨_,rfl,a,ns,rfl,aO.of ha1,by rw [List.length_map] at hl; exact hl,_,rfl,a,_,rfl,.inl (aO.of ha1),rfl,?_⟩
        rw [List.length_map]
        have e:decide (V.int (iy ns:Int)=V.int (ns.length:Int))=decide (ns.map V.int).Nodup:=by
         by_cases nd:ns.Nodup
         ·rw [decide_eq_true (dD.mpr nd),(jm ns).mpr nd]; simp
         ·rw [decide_eq_false (fun z=>nd (dD.mp z))]
          have:iy ns≠ns.length:=fun z=>nd ((jm ns).mp z)
          have:¬ ((iy ns:Nat):Int)=(ns.length:Int):=by omega
          simp [this]
        rw [e]
        exact q _ sA
end
end K07
namespace L2
open PySem PySem.Spec PyProof.Rows PySem.W
section
variable {X:Cx}
theorem ii {H:Hp}{p:Addr}{o:HO}(h:H p=none):au H (upd H p o):=fun b u e=>by rw [al (ap e h)]; exact e
noncomputable def Cy (K:Frag):V->Option Int->Option Int->Hp->VK->Prop:=fun x lo hi H Q=>∃ a xs,x = .ref a∧H a=some (.tup xs)∧∀ p H',au H H'->H' p=some (.tup (eK xs lo hi))->Q (.ref p) H'
theorem hV:AI X (Cy X.K):=by
 intro pins s σ H x v vl vu lo hi sl Q I rx hs pl pu h
 obtain ⟨a,xs,rfl,hx,q⟩:=h
 exact qX pins s σ H _ v vl vu lo hi sl Q I rx hs pl pu ⟨a,xs,rfl,bc.of hx,fun e=>q a H (au.refl _) (by rw [e]; exact hx),fun p hp=>q p _ (ii hp) ac⟩
noncomputable def rCatS:R2:=fun x y H Q=>∃ a b xs ys,x = .ref a∧y = .ref b∧H a=some (.tup xs)∧H b=some (.tup ys)∧xs.length + ys.length≤sizeLine∧∀ p H',au H H'->H' p=some (.tup (xs++ys))->Q (.ref p) H'
theorem nI:eZ X (binaryOp .Add) rCatS:=by
 intro pins s σ H x y v u Q I rx ry h
 obtain ⟨a,b,xs,ys,rfl,rfl,ha,hb,hz,q⟩:=h
 by_cases hx:xs=[]
 ·subst hx
  cases rx
  cases ry
  obtain ⟨its,r1,p1,_⟩:=I.tuple (bc.of ha)
  obtain ⟨its2,r2,p2,_⟩:=I.tuple (bc.of hb)
  cases r1
  obtain ⟨⟨cls,dd,data,sl⟩,ho,hc,n,hd⟩:=id p1
  obtain ⟨⟨cls2,dd2,data2,sl2⟩,ho2,hc2,n2,hd2⟩:=id p2
  simp only at hc hd hc2 hd2
  subst hc hd hc2 hd2
  exact concat_meets ⟨_,ho,rfl⟩ ⟨_,ho2,rfl⟩ noFill_tuple_add seq_tuple_add PySem.F.slot_tuple_add PySem.F.entry_tuple_add (PySem.F.args_tuple_add_2 _ _)
   (tuple_addW0 a b _ its2.toArray n n2 dd dd2 sl sl2 (by simp)) ⟨ho,ho2,.ref b,H,I,rfl,q b H (au.refl _) hb⟩
 ·exact yF pins s σ H _ _ v u Q I rx ry ⟨a,b,xs,ys,rfl,rfl,bc.of ha,bc.of hb,hx,hz,fun e=>q a H (au.refl _) (by rw [e,List.append_nil]; exact ha),fun _ p hp=>q p _ (ii hp) ac⟩
noncomputable def rSlVL:V->Option Int->Option Int->Hp->VK->Prop:=fun x lo hi H Q=>∃ a xs,x = .ref a∧H a=some (.lst xs)∧∀ p H',H p=none->au H H'->H' p=some (.lst (eK xs lo hi))->Q (.ref p) H'
theorem fQ:AI X rSlVL:=by
 intro pins s σ H x v vl vu lo hi sl Q I rx hs pl pu h
 obtain ⟨a,xs,rfl,hx,q⟩:=h
 exact yg pins s σ H _ v vl vu lo hi sl Q I rx hs pl pu ⟨a,xs,rfl,aO.of hx,fun p hp=>q p _ hp (ii hp) ac⟩
noncomputable def rCatL:R2:=fun x y H Q=>∃ a b xs ys,x = .ref a∧y = .ref b∧H a=some (.lst xs)∧H b=some (.lst ys)∧xs.length + ys.length≤sizeLine∧∀ p H',H p=none->au H H'->H' p=some (.lst (xs++ys))->Q (.ref p) H'
theorem mD:eZ X (binaryOp .Add) rCatL:=by
 intro pins s σ H x y v u Q I rx ry h
 obtain ⟨a,b,xs,ys,rfl,rfl,ha,hb,hz,q⟩:=h
 exact ql pins s σ H _ _ v u Q I rx ry ⟨a,b,xs,ys,rfl,rfl,ha,hb,hz,fun p hp=>q p _ hp (ii hp) ac⟩
end
mutual
noncomputable def jc (K:Frag)(H:Hp):PyData->V->Prop
 | .none,v=>v = .non
 | .bool b,v=>v = .bl b
 | .int i,v=>v = .int i
 | .str x,v=>v = .str x
 | .list ds,v=>∃ a xs,v = .ref a∧aO K H a xs∧gR K H ds xs
 | .tuple ds,v=>∃ a xs,v = .ref a∧bc K H a xs∧gR K H ds xs
 | .dict kvs,v=>kvs=[]∧∃ a,v = .ref a∧Rd H a (.dK [])
noncomputable def gR (K:Frag)(H:Hp):List PyData->List V->Prop
 | [],xs=>xs=[]
 | d :: ds,xs=>∃ y ys,xs=y :: ys∧jc K H d y∧gR K H ds ys
end
noncomputable def p5 (K:Frag):Prop:=∃ o,K.lookup sysModules=some o∧o.cls = .type "dict"
section
variable {X:Cx}{pins:List (Addr × Obj)}{σ:St}{H:Hp}{s:Shared}
theorem yQ (I:Inv X pins σ H s)(hS:p5 X.K){a:Addr}{o:Obj}(e:s.heap.get? a=some o){T:String}(hc:o.cls = .type T)(hT:T ≠ "dict"):a≠sysModules:=by
 rintro rfl
 obtain ⟨o',l,c⟩:=hS
 have e':=I.kIn _ _ l
 rw [e] at e'
 cases e'
 rw [hc] at c
 injection c with c
 exact hT c
mutual
theorem pB (I:Inv X pins σ H s)(hS:p5 X.K):∀ (d:PyData)(v:V)(u:Value),jc X.K H d v->aB v u->∃ as,Reads s.heap u d as∧sysModules ∉ as
 | .none,v,u,h,r=>by
   unfold jc at h
   subst h
   cases (show u=Value.none from r)
   exact ⟨_,.none,by simp⟩
 | .bool b,v,u,h,r=>by
   unfold jc at h
   subst h
   cases (show u=Value.bool b from r)
   exact ⟨_,.bool b,by simp⟩
 | .int i,v,u,h,r=>by
   unfold jc at h
   subst h
   obtain ⟨t,rfl⟩:=(show ∃ t,u=Value.int i t from r)
   exact ⟨_,.int i t,by simp⟩
 | .str x,v,u,h,r=>by
   unfold jc at h
   subst h
   obtain ⟨t,rfl⟩:=(show ∃ t,u=Value.str x t from r)
   exact ⟨_,.str x t,by simp⟩
 | .list ds,v,u,h,r=>by
   unfold jc at h
   obtain ⟨a,xs,rfl,hl,hd⟩:=h
   cases (show u=Value.ref a from r)
   obtain ⟨its,rv,⟨o,n,e,hc,_,hdt⟩,_⟩:=I.list hl
   obtain ⟨as,ra,na⟩:=fh I hS ds xs its hd rv
   exact ⟨_,.list e hc hdt (by simpa using ra),by
    have:=yQ I hS e hc (by decide)
    simp only [List.mem_cons,not_or]
    exact ⟨Ne.symm this,na⟩⟩
 | .tuple ds,v,u,h,r=>by
   unfold jc at h
   obtain ⟨a,xs,rfl,hl,hd⟩:=h
   cases (show u=Value.ref a from r)
   obtain ⟨its,rv,⟨o,e,hc,n,hdt⟩,_⟩:=I.tuple hl
   obtain ⟨as,ra,na⟩:=fh I hS ds xs its hd rv
   exact ⟨_,.tuple e hc hdt (by simpa using ra),na⟩
 | .dict kvs,v,u,h,r=>by
   unfold jc at h
   obtain ⟨rfl,a,rfl,hl⟩:=h
   cases (show u=Value.ref a from r)
   obtain ⟨_,hne,vs,kv,⟨o,es,ep,e,hx,hdt,_,pr,_⟩⟩:=jV I.hok hl
   have hv:vs=[]:=by cases kv; rfl
   subst hv
   have hes:es.toList=[]:=by
    cases hq:es.toList with
    | nil=>rfl
    | cons x l=>rw [hq] at pr; cases pr
   refine ⟨[a]++[]++[],.dict e hx.1 hdt (by rw [hes]; exact .nil) (by rw [hes]; exact .nil),?_⟩
   simp only [List.append_nil,List.mem_singleton]
   intro q
   rw [q] at hne
   simp at hne
theorem fh (I:Inv X pins σ H s)(hS:p5 X.K):∀ (ds:List PyData)(vs:List V)(us:List Value),gR X.K H ds vs->aJ vs us->∃ as,ReadsAll s.heap us ds as∧sysModules ∉ as
 | [],vs,us,h,r=>by
   unfold gR at h
   subst h
   cases r
   exact ⟨_,.nil,by simp⟩
 | d :: ds,vs,us,h,r=>by
   unfold gR at h
   obtain ⟨y,ys,rfl,h1,h2⟩:=h
   cases r with
   | cons r1 r2 =>
     obtain ⟨as,ra,na⟩:=pB I hS d y _ h1 r1
     obtain ⟨bs,rb,nb⟩:=fh I hS ds ys _ h2 r2
     exact ⟨_,.cons ra rb,by simp only [List.mem_append,not_or]; exact ⟨na,nb⟩⟩
end
theorem qO {k:Nat}(hr:Room k X.A)(hS:p5 X.K):cR X (.builtin "repr") (fun xs H Q=>∃ a d,xs=[.ref a]∧jc X.K H d (.ref a)∧d.showable=true∧d.depth≤60∧d.shown.length≤sizeLine∧Q (.str d.shown) H):=by
 intro pins s σ H vs us Q I r h
 obtain ⟨a,d,rfl,hd,hs,hdp,hz,q⟩:=h
 obtain ⟨u,rfl,ru⟩:=dH r
 cases (show u=Value.ref a from ru)
 obtain ⟨as,ra,na⟩:=pB I hS d _ _ hd (show aB (.ref a) (Value.ref a) from rfl)
 refine repr_of_reads' ra hs (fun _=>na) hr.gd (by have:=hr.units; omega) (fun _ _ e=>e) (fun h' u tk hk=>?_) hz
 exact ⟨.str d.shown,H,I.kept (t':=tk) hk,⟨u,rfl⟩,q⟩
end
mutual
noncomputable def wt:PyData->Nat
 | .none=>4
 | .bool _=>5
 | .int _=>1921
 | .str x=>(reprText x).length
 | .list xs=>gf xs + 2
 | .tuple xs=>gf xs + 3
 | .dict _=>2
noncomputable def gf:List PyData->Nat
 | []=>0
 | x :: xs=>wt x + 2 + gf xs
end
theorem i4:∀ (ts:List Str)(k:Nat)(acc:Str),(textFrom k acc ts).length≤acc.length + (ts.map fun t=>t.length + 2).sum
 | [],k,acc=>by simp [textFrom]
 | t :: ts,k,acc=>by
   unfold textFrom
   have h:=i4 ts (k + 1) (acc++(if k > 0 then ", " else "":String)++t)
   have e:(acc++((if k > 0 then ", " else "":String):Str)++t).length≤acc.length + 2 + t.length:=by
    rw [Str.length_append,Str.length_append]
    have:(((if k > 0 then ", " else "":String):Str)).length≤2:=by
     split
     ·decide
     ·decide
    omega
   simp only [List.map_cons,List.sum_cons]
   omega
theorem rT:∀ (ts:List Str),(Str.join ", " ts).length≤(ts.map fun t=>t.length + 2).sum
 | []=>by
   show (Str.empty).length≤_
   simp [Str.empty,Str.length]
 | [t]=>by
   show t.length≤_
   simp
 | t :: u :: ts=>by
   show (t++(", ":String)++Str.join ", " (u :: ts)).length≤_
   rw [Str.length_append,Str.length_append]
   have h:=rT (u :: ts)
   have e:(((", ":String):Str)).length=2:=by decide
   simp only [List.map_cons,List.sum_cons] at h ⊢
   omega
mutual
theorem oB:∀ (d:PyData)(K:Frag)(H:Hp)(v:V),jc K H d v->d.showable=true->d.shown.length≤wt d
 | .none,_,_,_,_,_=>by unfold PyData.shown wt; decide
 | .bool b,_,_,_,_,_=>by unfold PyData.shown wt; cases b <;> decide
 | .int i,_,_,_,_,h=>by
   unfold PyData.showable at h
   unfold PyData.shown wt
   exact int_text_len_1921 (of_decide_eq_true h)
 | .str x,_,_,_,_,_=>by unfold PyData.shown wt; exact Nat.le_refl _
 | .list xs,K,H,v,r,h=>by
   unfold jc at r
   obtain ⟨a,vs,_,_,r⟩:=r
   unfold PyData.showable at h
   unfold PyData.shown wt listText
   have e:=i4 (PyData.shownAll xs) 0 (("[":String):Str)
   have f:=fJ xs K H vs r h
   rw [Str.length_append]
   have l1:((("[":String):Str)).length=1:=by decide
   have l2:((("]":String):Str)).length=1:=by decide
   omega
 | .tuple xs,K,H,v,r,h=>by
   unfold jc at r
   obtain ⟨a,vs,_,_,r⟩:=r
   unfold PyData.showable at h
   unfold PyData.shown wt tupleText
   have e:=rT (PyData.shownAll xs)
   have f:=fJ xs K H vs r h
   rw [Str.length_append,Str.length_append]
   have l1:((("(":String):Str)).length=1:=by decide
   have l2:((((if (PyData.shownAll xs).length == 1 then ",)" else ")":String)):Str)).length≤2:=by
    split
    ·decide
    ·decide
   omega
 | .dict kvs,K,H,v,r,h=>by
   unfold jc at r
   obtain ⟨rfl,_⟩:=r
   unfold PyData.shown wt
   decide
theorem fJ:∀ (ds:List PyData)(K:Frag)(H:Hp)(vs:List V),gR K H ds vs->PyData.showableAll ds=true->((PyData.shownAll ds).map fun t=>t.length + 2).sum≤gf ds
 | [],_,_,_,_,_=>by unfold PyData.shownAll gf; simp
 | d :: ds,K,H,vs,r,h=>by
   unfold gR at r
   obtain ⟨y,ys,_,r1,r2⟩:=r
   unfold PyData.showableAll at h
   rw [Bool.and_eq_true] at h
   unfold PyData.shownAll gf
   have a:=oB d K H y r1 h.1
   have b:=fJ ds K H ys r2 h.2
   simp only [List.map_cons,List.sum_cons]
   omega
end
theorem ki {X:Cx}{k:Nat}(hr:Room k X.A)(hS:p5 X.K):cR X (.builtin "repr") (fun xs H Q=>∃ a d,xs=[.ref a]∧jc X.K H d (.ref a)∧d.showable=true∧d.depth≤60∧wt d≤16777216∧Q (.str d.shown) H):=by
 intro pins s σ H vs us Q I r h
 obtain ⟨a,d,e,hd,hs,hdp,hz,q⟩:=h
 exact qO hr hS pins s σ H vs us Q I r ⟨a,d,e,hd,hs,hdp,by rw [sizeLine_eq]; exact Nat.le_trans (oB d _ _ _ hd hs) hz,q⟩
noncomputable def qd (r:Addr)(H H':Hp):Prop:=∀ b o,H b=some o->b≠r->H' b=some o
section
variable {cs:List (Addr × Obj)}{H1 H2:Hp}
theorem xL (hc:∀ c o,cs.lookup c=some o->H1 c=none):dU cs (de cs H1)=H1:=by
 funext b
 cases q:cs.lookup b with
 | some o=>rw [dW q,hc b o q]
 | none=>rw [bX q,bo q]
theorem nW (hc:∀ c o,cs.lookup c=some o->H1 c=none){b:Addr}{v:HO}(e:H1 b=some v):cs.lookup b=none:=by
 cases q:cs.lookup b with
 | none=>rfl
 | some o=>rw [hc b o q] at e; cases e
theorem wZ (hc:∀ c o,cs.lookup c=some o->H1 c=none)(S:au (de cs H1) H2):au H1 (dU cs H2):=fun b v e=>by
 rw [bX (nW hc e)]
 exact S b v (by rw [bo (nW hc e)]; exact e)
theorem ig (S:au H1 H2):au (de cs H1) (de cs H2):=fun b v e=>by
 cases q:cs.lookup b with
 | some o =>
   rw [jn q] at e ⊢
   exact e
 | none =>
   rw [bo q] at e ⊢
   exact S b v e
theorem vx {H:Hp}:d3 cs (de cs H):=fun b v e=>jn e
end
theorem jf {pos:Pos}{a b:Int}{c:Value}(l:List Value)(h:TriplesOk l)(hn:¬ (a=pos.line∧b=pos.col)):codeAmong pos (l++[rawInt a,rawInt b,c])=codeAmong pos l:=by
 fun_induction TriplesOk l with
 | case1 =>
   show (if (a == (pos.line:Int)&&b == (pos.col:Int))=true then some c else codeAmong pos [])=codeAmong pos []
   rw [if_neg (by simpa using hn)]
 | case2 a' t b' u x rest ih =>
   simp only [List.cons_append,codeAmong]
   rw [ih h]
 | case3=>exact h.elim
noncomputable def i9 (ls:List Pos)(q:Str)(Pt:Addr)(H:Hp):Prop:=∃ ps,H Pt=some (.tbl ps)∧TriplesOk ps.toList∧∀ pos∈ls,codeAmong pos ps.toList=none∨∃ c' oc,codeAmong pos ps.toList=some (.ref c')∧H c'=some (cZ c' oc)∧dO q oc
theorem i9.same {ls:List Pos}{q:Str}{Pt:Addr}{H H':Hp}(h:i9 ls q Pt H)(S:au H H'):i9 ls q Pt H':=by
 obtain ⟨ps,h1,h2,h3⟩:=h
 refine ⟨ps,S _ _ h1,h2,fun pos hp=>?_⟩
 rcases h3 pos hp with z | ⟨c',oc,a,b,c⟩
 ·exact .inl z
 ·exact .inr ⟨c',oc,a,S _ _ b,c⟩
theorem i9.but {ls:List Pos}{q:Str}{Pt r:Addr}{H H':Hp}{l:List V}(h:i9 ls q Pt H)(hr:H r=some (.lst l))(S:qd r H H'):i9 ls q Pt H':=by
 have n1:∀ b ps,H b=some (.tbl ps)->b≠r:=fun b ps e z=>by rw [z,hr] at e; cases e
 have n2:∀ b oc,H b=some (cZ b oc)->b≠r:=fun b oc e z=>by rw [z,hr] at e; cases e
 obtain ⟨ps,h1,h2,h3⟩:=h
 refine ⟨ps,S _ _ h1 (n1 _ _ h1),h2,fun pos hp=>?_⟩
 rcases h3 pos hp with z | ⟨c',oc,a,b,c⟩
 ·exact .inl z
 ·exact .inr ⟨c',oc,a,S _ _ b (n2 _ _ b),c⟩
theorem uY {X:Cx}{pars:Arguments}{body:Expr}{sc:Scope}{pos:Pos}{ls:List Pos}{lq:Str}{Pt:Addr}{σ:St}{H:Hp}{Q:VK}(hpos:pos∈ls)(hd:∀ p∈ls,∀ p'∈ls,((p.line:Int)=p'.line∧(p.col:Int)=p'.col)->p=p')(hq:X.env.qual++"<lambda>"=lq)(tb:i9 ls lq Pt H)
 (q:∀ (H7:Hp)(f c':Addr)(oc:Obj)(ctv:Value),H7 f=some (cZ f (dZ X pars body sc c' ctv))->H7 c'=some (cZ c' oc)->dO lq oc->qd Pt H H7->i9 ls lq Pt H7->Q (.ref f) H7):AV X pars body sc pos Pt σ H Q:=by
 obtain ⟨ps,hP,hT,hall⟩:=id tb
 refine ⟨ps,hP,hT,?_⟩
 rcases hall pos hpos with hn | ⟨c',oc,hm,hc',hoc⟩
 ·refine .inl ⟨hn,fun c' f oc ctv hc' hf hne hoc=>?_⟩
  rw [hq] at hoc
  have kp:∀ b u,H b=some u->b≠Pt->(upd (upd (upd H Pt (.tbl (ps++#[rawInt pos.line,rawInt pos.col,.ref c']))) c' (cZ c' oc)) f (cZ f (dZ X pars body sc c' ctv))) b=some u:=fun b u e n=>by
   rw [al (ap e hf),al (ap e hc'),al n]
   exact e
  refine q _ f c' oc ctv ac (by rw [al hne,ac]) hoc kp ⟨_,by rw [al (ap hP hf),al (ap hP hc'),ac],by rw [Array.toList_append]; exact TriplesOk_snoc _ _ _ _ hT,fun pos' hpos'=>?_⟩
  rw [Array.toList_append]
  by_cases e:pos'=pos
  ·subst e
   exact .inr ⟨c',oc,codeAmong_snoc _ hT hn,by rw [al hne,ac],hoc⟩
  ·have ne:¬ ((pos.line:Int)=pos'.line∧(pos.col:Int)=pos'.col):=fun z=>e (hd _ hpos _ hpos' z).symm
   rw [show (#[rawInt pos.line,rawInt pos.col,Value.ref c']:Array Value).toList=[rawInt pos.line,rawInt pos.col,Value.ref c'] from rfl,jf _ hT ne]
   rcases hall pos' hpos' with z | ⟨c2,oc2,a,b,c⟩
   ·exact .inl z
   ·exact .inr ⟨c2,oc2,a,kp _ _ b (fun z=>by rw [z,hP] at b; cases b),c⟩
 ·refine .inr ⟨c',oc,hm,hc',by rw [hq]; exact hoc,fun f ctv hf=>?_⟩
  have S:au H (upd H f (cZ f (dZ X pars body sc c' ctv))):=fun b u e=>by rw [al (ap e hf)]; exact e
  exact q _ f c' oc ctv ac (S _ _ hc') hoc (fun b u e _=>S b u e) (tb.same S)
theorem lK {a b:V}{os:List Obj}(r:Paired kc [a,b] os):∃ o1 o2,os=[o1,o2]∧kc a o1∧kc b o2:=by
 cases r with
 | cons r1 r =>
   cases r with
   | cons r2 r =>
     cases r
     exact ⟨_,_,rfl,r1,r2⟩
section
variable {P:Program}{w:World}{K:Frag}{mg:Str->Option Value}{base:Heap}{qual name y1 y2:Str}{scope:Scope}{f c' c1 c2:Addr}{params:Arguments}{body:Expr}{pm ctv:Value}{k:Nat}{v1 v2:V}{o1 o2 oc:Obj}
theorem lh {φ0:Hp->VK->XK->Prop}(hbind:bindArgs (kla_fn name qual params body scope [(y2,c2),(y1,c1)] pm (.ref c') ctv) ⟨[],[]⟩=pure [])(hk:scope.kind = .function)(hco:scope.isCoroutine=false)(hgen:scope.isGenerator=false)(hcell:∀ x∈scope.names,x.2 ≠ .cell)
 (hfree:∀ q∈scope.names,q.2 = .free->q.1=y1∨q.1=y2)(f1:scope.names.lookup y1=some .free)(f2:scope.names.lookup y2=some .free)(hy:(y1 == y2)=false)
 (r1:kc v1 o1)(r2:kc v2 o2)(n12:c1≠c2)(hoc:dO qual oc)
 (hbody:∀ (A:Around)(outer:List Env)(s:Shared)(H:Hp)(Q:VK)(E:XK),Room k (A.deeper (envX qual scope s.heap.objs.size f (.ref c') [(y2,c2),(y1,c1)]))->φ0 H Q E->∃ t,PE (Bv P w K mg base [y1,y2] qual scope f (.ref c') [(y2,c2),(y1,c1)] A outer s H E) body t∧t [some v1,some v2] H Q):
 sM P w K mg base (k + 1) f (lamφ f c' (kla_obj name qual params body scope [(y2,c2),(y1,c1)] pm c' ctv) oc [(c1,o1),(c2,o2)] φ0):=by
 obtain ⟨u1,r1,h1⟩:=r1
 obtain ⟨u2,r2,h2⟩:=r2
 have l1:([(c1,o1),(c2,o2)]:List (Addr × Obj)).lookup c1=some o1:=by simp
 have l2:([(c1,o1),(c2,o2)]:List (Addr × Obj)).lookup c2=some o2:=by
  rw [List.lookup_cons]
  have z:(c2 == c1)=false:=by simpa using Ne.symm n12
  rw [z]
  simp
 have k1:([(y2,c2),(y1,c1)]:List (Str × Addr)).lookup y1=some c1:=by
  rw [List.lookup_cons,hy]
  simp
 have k2:([(y2,c2),(y1,c1)]:List (Str × Addr)).lookup y2=some c2:=by simp
 have nm:∀ y d,([(y2,c2),(y1,c1)]:List (Str × Addr)).lookup y=some d->(y=y1∧d=c1)∨(y=y2∧d=c2):=fun y d e=>by
  have m:=PySem.mem_of_lookup e
  simp at m
  rcases m with m | m
  ·exact .inr m
  ·exact .inl m
 refine uL (N:=[y1,y2]) (vs:=[v1,v2]) (k:=k) hbind hk hco hgen hcell (fun y hyy=>?_) (fun y z d e1 e2=>?_) hoc (fun y d e=>?_) (fun i y v e1 e2=>?_) rfl hbody
 ·rcases hfree _ (PySem.mem_of_lookup hyy) rfl with z | z
  ·have z:y=y1:=z
   subst z
   exact ⟨c1,k1⟩
  ·have z:y=y2:=z
   subst z
   exact ⟨c2,k2⟩
 ·rcases nm y d e1 with ⟨a,b⟩ | ⟨a,b⟩ <;> rcases nm z d e2 with ⟨a',b'⟩ | ⟨a',b'⟩
  ·rw [a,a']
  ·exact absurd (b.symm.trans b') n12
  ·exact absurd (b'.symm.trans b) n12
  ·rw [a,a']
 ·rcases nm y d e with ⟨a,b⟩ | ⟨a,b⟩
  ·exact ⟨o1,_,by rw [b]; exact l1,h1⟩
  ·exact ⟨o2,_,by rw [b]; exact l2,h2⟩
 ·match i,e1,e2 with
  | 0,e1,e2 =>
    cases e1
    cases e2
    exact ⟨f1,c1,o1,u1,k1,l1,h1,r1⟩
  | 1,e1,e2 =>
    cases e1
    cases e2
    exact ⟨f2,c2,o2,u2,k2,l2,h2,r2⟩
  | i + 2,e1,e2=>simp at e1
noncomputable def oN (φ:Hp->VK->XK->Prop):Prop:=∀ (H:Hp)(Q Q':VK)(E E':XK),(∀ v H',Q v H'->Q' v H')->(∀ cls d H',E cls d H'->E' cls d H')->φ H Q E->φ H Q' E'
theorem oy {fo:Obj}{cs:List (Addr × Obj)}{φ0:Hp->VK->XK->Prop}(m:oN φ0):oN (lamφ f c' fo oc cs φ0):=by
 intro H Q Q' E E' hQ hE h
 obtain ⟨g1,g2,g3,g4⟩:=h
 exact ⟨g1,g2,g3,m _ _ _ _ _ (fun v H' q=>hQ _ _ q) (fun c d H' q=>hE _ _ _ q) g4⟩
theorem sI {fo:Obj}{φ0:Hp->VK->XK->Prop}{H7:Hp}{Q:VK}{E:XK}(hf:H7 f=some (cZ f fo))(hc':H7 c'=some (cZ c' oc))(z:∀ c∈[c1,c2],H7 c=none)
 (h:φ0 H7 (fun v H'=>Q v (de [(c1,o1),(c2,o2)] H')) fun cls d H'=>E cls d (de [(c1,o1),(c2,o2)] H')):lamφ f c' fo oc [(c1,o1),(c2,o2)] φ0 (de [(c1,o1),(c2,o2)] H7) Q E:=by
 have hc:∀ c o,([(c1,o1),(c2,o2)]:List (Addr × Obj)).lookup c=some o->H7 c=none:=fun c o e=>by
  have m:=dN e
  simp at m
  rcases m with ⟨a,_⟩ | ⟨a,_⟩ <;> rw [a] <;> exact z _ (by simp)
 refine ⟨by rw [bo (nW hc hf)]; exact hf,by rw [bo (nW hc hc')]; exact hc',vx,?_⟩
 rw [xL hc]
 exact h
theorem yb {H7 H8:Hp}(z:∀ c∈[c1,c2],H7 c=none)(S:au (de [(c1,o1),(c2,o2)] H7) H8):d3 [(c1,o1),(c2,o2)] H8∧au H7 (dU [(c1,o1),(c2,o2)] H8):=by
 have hc:∀ c o,([(c1,o1),(c2,o2)]:List (Addr × Obj)).lookup c=some o->H7 c=none:=fun c o e=>by
  have m:=dN e
  simp at m
  rcases m with ⟨a,_⟩ | ⟨a,_⟩ <;> rw [a] <;> exact z _ (by simp)
 exact ⟨fun b v e=>S b _ (jn e),wZ hc S⟩
end
end L2
namespace K07
open PySem L2 PySem.W Nm Srt
mutual
noncomputable def Dt (r:Addr)(H:Hp):PyData->V->Prop
 | .none,v=>v = .non
 | .bool b,v=>v = .bl b
 | .int i,v=>v = .int i
 | .str x,v=>v = .str x
 | .list ds,v=>∃ a xs,v = .ref a∧a≠r∧H a=some (.lst xs)∧dz r H ds xs
 | .tuple ds,v=>∃ a xs,v = .ref a∧H a=some (.tup xs)∧dz r H ds xs
 | .dict kvs,v=>kvs=[]∧∃ a,v = .ref a∧H a=some (.dK [])
noncomputable def dz (r:Addr)(H:Hp):List PyData->List V->Prop
 | [],xs=>xs=[]
 | d :: ds,xs=>∃ y ys,xs=y :: ys∧Dt r H d y∧dz r H ds ys
end
noncomputable def Kp (H H':Hp):Prop:=∀ b o,H b=some o->(∀ ps,o ≠ .tbl ps)->H' b=some o
theorem Kp.of {H H':Hp}(s:au H H'):Kp H H':=fun b o e _=>s b o e
theorem Kp.trans {H H1 H2:Hp}(a:Kp H H1)(b:Kp H1 H2):Kp H H2:=fun c o e k=>b c o (a c o e k) k
theorem Kp.bt {H H':Hp}{Pt:Addr}{ps:Array Value}(e:H Pt=some (.tbl ps))(s:qd Pt H H'):Kp H H':=fun b o h k=>s b o h fun z=>by
 rw [z,e] at h
 exact k _ (Option.some.inj h).symm
theorem Kp.tup {H H':Hp}(k:Kp H H'):aA H H':=fun b xs e=>k b _ e fun _ z=>by cases z
theorem Kp.lst {H H':Hp}(k:Kp H H'){a:Addr}{xs:List V}(e:H a=some (.lst xs)):H' a=some (.lst xs):=k a _ e fun _ z=>by cases z
theorem Kp.ins {H H':Hp}(k:Kp H H'){a C dx:Addr}{fs:List (Str × V)}(e:H a=some (.ins C dx fs)):H' a=some (.ins C dx fs):=k a _ e fun _ z=>by cases z
theorem SumAt.kp {C CF:Addr}{H H':Hp}{s dx fl dxf D:Addr}{p:Int}{zs:List V}{ts:List Tm}(h:SumAt C CF H s dx fl dxf D p zs ts)(e:Kp H H'):SumAt C CF H' s dx fl dxf D p zs ts :=
 ⟨e.ins h.hs,e.ins h.hf,h.hp,e.lst h.hD,a8.keep h.hz e.tup⟩
noncomputable def aD (r:Addr)(H H':Hp):Prop:=∀ b o,H b=some o->(b=r->∀ l,o ≠ .lst l)->(∀ ps,o ≠ .tbl ps)->H' b=some o
theorem aD.of {r:Addr}{H H':Hp}(s:au H H'):aD r H H':=fun b o e _ _=>s b o e
theorem aD.kp {r:Addr}{H H':Hp}(s:Kp H H'):aD r H H':=fun b o e _ k=>s b o e k
theorem aD.but {r:Addr}{H H':Hp}(R:aH H r)(s:SameBut r H H'):aD r H H':=fun b o e k _=>s b o e fun z=>by
 obtain ⟨l,x,h,_⟩:=R
 rw [z,h] at e
 exact k z _ (Option.some.inj e).symm
theorem aD.trans {r:Addr}{H H1 H2:Hp}(a:aD r H H1)(b:aD r H1 H2):aD r H H2:=fun c o e k k2=>b c o (a c o e k k2) k k2
theorem aD.tup {r:Addr}{H H':Hp}(k:aD r H H'):aA H H':=fun b xs e=>k b _ e (fun _ l z=>by cases z) fun _ z=>by cases z
theorem aD.lst {r:Addr}{H H':Hp}(k:aD r H H'){a:Addr}{xs:List V}(n:a≠r)(e:H a=some (.lst xs)):H' a=some (.lst xs):=k a _ e (fun z=>absurd z n) fun _ z=>by cases z
theorem aD.ins {r:Addr}{H H':Hp}(k:aD r H H'){a C dx:Addr}{fs:List (Str × V)}(e:H a=some (.ins C dx fs)):H' a=some (.ins C dx fs):=k a _ e (fun _ l z=>by cases z) fun _ z=>by cases z
theorem SumAt.keep {C CF:Addr}{H H':Hp}{s dx fl dxf D r:Addr}{p:Int}{zs:List V}{ts:List Tm}(h:SumAt C CF H s dx fl dxf D p zs ts)(n:D≠r)(e:aD r H H'):SumAt C CF H' s dx fl dxf D p zs ts :=
 ⟨e.ins h.hs,e.ins h.hf,h.hp,e.lst n h.hD,a8.keep h.hz e.tup⟩
mutual
theorem Dt.keep {r:Addr}{H H':Hp}(k:aD r H H'):∀ (d:PyData)(v:V),Dt r H d v->Dt r H' d v
 | .none,v,h=>by unfold Dt at h ⊢; exact h
 | .bool b,v,h=>by unfold Dt at h ⊢; exact h
 | .int i,v,h=>by unfold Dt at h ⊢; exact h
 | .str x,v,h=>by unfold Dt at h ⊢; exact h
 | .list ds,v,h=>by
   unfold Dt at h ⊢
   obtain ⟨a,xs,e,n,ha,hd⟩:=h
   exact ⟨a,xs,e,n,k.lst n ha,dz.keep k ds xs hd⟩
 | .tuple ds,v,h=>by
   unfold Dt at h ⊢
   obtain ⟨a,xs,e,ha,hd⟩:=h
   exact ⟨a,xs,e,k.tup _ _ ha,dz.keep k ds xs hd⟩
 | .dict kvs,v,h=>by
   unfold Dt at h ⊢
   obtain ⟨e1,a,e,ha⟩:=h
   exact ⟨e1,a,e,k _ _ ha (fun _ l z=>by cases z) fun _ z=>by cases z⟩
theorem dz.keep {r:Addr}{H H':Hp}(k:aD r H H'):∀ (ds:List PyData)(xs:List V),dz r H ds xs->dz r H' ds xs
 | [],xs,h=>by unfold dz at h ⊢; exact h
 | d :: ds,xs,h=>by
   unfold dz at h ⊢
   obtain ⟨y,ys,e,h1,h2⟩:=h
   exact ⟨y,ys,e,Dt.keep k d y h1,dz.keep k ds ys h2⟩
end
mutual
theorem Dt.rd {r:Addr}{K:Frag}{H:Hp}:∀ (d:PyData)(v:V),Dt r H d v->jc K H d v
 | .none,v,h=>by unfold Dt at h; unfold jc; exact h
 | .bool b,v,h=>by unfold Dt at h; unfold jc; exact h
 | .int i,v,h=>by unfold Dt at h; unfold jc; exact h
 | .str x,v,h=>by unfold Dt at h; unfold jc; exact h
 | .list ds,v,h=>by
   unfold Dt at h; unfold jc
   obtain ⟨a,xs,e,n,ha,hd⟩:=h
   exact ⟨a,xs,e,aO.of ha,dz.rd ds xs hd⟩
 | .tuple ds,v,h=>by
   unfold Dt at h; unfold jc
   obtain ⟨a,xs,e,ha,hd⟩:=h
   exact ⟨a,xs,e,bc.of ha,dz.rd ds xs hd⟩
 | .dict kvs,v,h=>by
   unfold Dt at h; unfold jc
   obtain ⟨e1,a,e,ha⟩:=h
   exact ⟨e1,a,e,Rd.of ha⟩
theorem dz.rd {r:Addr}{K:Frag}{H:Hp}:∀ (ds:List PyData)(xs:List V),dz r H ds xs->gR K H ds xs
 | [],xs,h=>by unfold dz at h; unfold gR; exact h
 | d :: ds,xs,h=>by
   unfold dz at h; unfold gR
   obtain ⟨y,ys,e,h1,h2⟩:=h
   exact ⟨y,ys,e,Dt.rd d y h1,dz.rd ds ys h2⟩
end
theorem Dt.th {r:Addr}{H:Hp}{d:PyData}{v:V}(h:Dt r H d v):∃ T,Th H v T:=by
 cases d with
 | none=>unfold Dt at h; subst h; exact ⟨_,.non⟩
 | bool b=>unfold Dt at h; subst h; exact ⟨_,.bl b⟩
 | int i=>unfold Dt at h; subst h; exact ⟨_,.int i⟩
 | str x=>unfold Dt at h; subst h; exact ⟨_,.str x⟩
 | list ds=>unfold Dt at h; obtain ⟨a,xs,rfl,n,ha,hd⟩:=h; exact ⟨_,.lst ha⟩
 | tuple ds=>unfold Dt at h; obtain ⟨a,xs,rfl,ha,hd⟩:=h; exact ⟨_,.tup ha⟩
 | dict kvs=>unfold Dt at h; obtain ⟨_,a,rfl,ha⟩:=h; exact ⟨_,.dK ha⟩
theorem dz.th {r:Addr}{H:Hp}:∀ {ds:List PyData}{xs:List V},dz r H ds xs->∀ y∈xs,∃ T,Th H y T
 | [],xs,h,y,hy=>by unfold dz at h; subst h; cases hy
 | d :: ds,xs,h,y,hy=>by
   unfold dz at h
   obtain ⟨z,zs,rfl,h1,h2⟩:=h
   rcases List.mem_cons.mp hy with rfl | hy
   ·exact h1.th
   ·exact dz.th h2 y hy
theorem dz.len {r:Addr}{H:Hp}:∀ {ds:List PyData}{xs:List V},dz r H ds xs->xs.length=ds.length
 | [],xs,h=>by unfold dz at h; subst h; rfl
 | d :: ds,xs,h=>by
   unfold dz at h
   obtain ⟨z,zs,rfl,h1,h2⟩:=h
   rw [List.length_cons,List.length_cons,dz.len h2]
noncomputable def uv:PyData->Nat
 | .list ds=>ds.length
 | .tuple ds=>ds.length
 | _=>0
theorem Dt.px {r:Addr}{H:Hp}{d:PyData}{v:V}(h:Dt r H d v)(hl:uv d < 4000):∃ o,PX H v o:=by
 cases d with
 | tuple ds =>
   unfold Dt at h
   obtain ⟨a,xs,rfl,ha,hd⟩:=h
   exact ⟨_,.tup ha (by rw [hd.len]; exact hl) hd.th⟩
 | none=>unfold Dt at h; subst h; exact ⟨_,.no .non (by decide)⟩
 | bool b=>unfold Dt at h; subst h; exact ⟨_,.no (.bl b) (by decide)⟩
 | int i=>unfold Dt at h; subst h; exact ⟨_,.no (.int i) (by decide)⟩
 | str x=>unfold Dt at h; subst h; exact ⟨_,.no (.str x) (by decide)⟩
 | list ds=>unfold Dt at h; obtain ⟨a,xs,rfl,n,ha,hd⟩:=h; exact ⟨_,.no (.lst ha) (by decide)⟩
 | dict kvs=>unfold Dt at h; obtain ⟨_,a,rfl,ha⟩:=h; exact ⟨_,.no (.dK ha) (by decide)⟩
theorem Dt.lx {r:Addr}{H:Hp}{d:PyData}{v:V}(h:Dt r H d v)(hl:uv d < 4000):∃ o,LX H v o:=by
 cases d with
 | list ds =>
   unfold Dt at h
   obtain ⟨a,xs,rfl,n,ha,hd⟩:=h
   exact ⟨_,.lst ha (by rw [hd.len]; exact hl) hd.th⟩
 | none=>unfold Dt at h; subst h; exact ⟨_,.no .non (by decide)⟩
 | bool b=>unfold Dt at h; subst h; exact ⟨_,.no (.bl b) (by decide)⟩
 | int i=>unfold Dt at h; subst h; exact ⟨_,.no (.int i) (by decide)⟩
 | str x=>unfold Dt at h; subst h; exact ⟨_,.no (.str x) (by decide)⟩
 | tuple ds=>unfold Dt at h; obtain ⟨a,xs,rfl,ha,hd⟩:=h; exact ⟨_,.no (.tup ha) (by decide)⟩
 | dict kvs=>unfold Dt at h; obtain ⟨_,a,rfl,ha⟩:=h; exact ⟨_,.no (.dK ha) (by decide)⟩
theorem dz.append {r:Addr}{H:Hp}:∀ {ds es:List PyData}{xs ys:List V},dz r H ds xs->dz r H es ys->dz r H (ds++es) (xs++ys)
 | [],es,xs,ys,h,k=>by unfold dz at h; subst h; exact k
 | d :: ds,es,xs,ys,h,k=>by
   unfold dz at h
   obtain ⟨z,zs,rfl,h1,h2⟩:=h
   show dz r H (d :: (ds++es)) (z :: (zs++ys))
   unfold dz
   exact ⟨z,_,rfl,h1,dz.append h2 k⟩
theorem dz.one {r:Addr}{H:Hp}{d:PyData}{v:V}(h:Dt r H d v):dz r H [d] [v]:=by
 unfold dz
 exact ⟨v,[],rfl,h,by unfold dz; rfl⟩
theorem bf {r:Addr}{H:Hp}:∀ ns:List Int,dz r H (ns.map PyData.int) (ns.map V.int)
 | []=>by unfold dz; rfl
 | n :: ns=>by
   show dz r H (.int n :: ns.map PyData.int) (.int n :: ns.map V.int)
   unfold dz
   exact ⟨_,_,rfl,by unfold Dt; rfl,bf ns⟩
theorem gA:∀ ds es:List PyData,gf (ds++es)=gf ds + gf es
 | [],es=>by simp [gf]
 | d :: ds,es=>by
   show gf (d :: (ds++es))=gf (d :: ds) + gf es
   rw [show gf (d :: (ds++es))=wt d + 2 + gf (ds++es) from by rw [gf],show gf (d :: ds)=wt d + 2 + gf ds from by rw [gf],gA ds es]
   omega
theorem iB:∀ ds es:List PyData,PyData.showableAll (ds++es)=(PyData.showableAll ds&&PyData.showableAll es)
 | [],es=>by simp [PyData.showableAll]
 | d :: ds,es=>by
   show PyData.showableAll (d :: (ds++es))=(PyData.showableAll (d :: ds)&&PyData.showableAll es)
   rw [show PyData.showableAll (d :: (ds++es))=(d.showable&&PyData.showableAll (ds++es)) from by rw [PyData.showableAll],show PyData.showableAll (d :: ds)=(d.showable&&PyData.showableAll ds) from by rw [PyData.showableAll],iB ds es,Bool.and_assoc]
theorem iH:∀ ds es:List PyData,PyData.depthAll (ds++es)=max (PyData.depthAll ds) (PyData.depthAll es)
 | [],es=>by simp [PyData.depthAll]
 | d :: ds,es=>by
   show PyData.depthAll (d :: (ds++es))=max (PyData.depthAll (d :: ds)) (PyData.depthAll es)
   rw [show PyData.depthAll (d :: (ds++es))=max d.depth (PyData.depthAll (ds++es)) from by rw [PyData.depthAll],show PyData.depthAll (d :: ds)=max d.depth (PyData.depthAll ds) from by rw [PyData.depthAll],iH ds es]
   omega
theorem dR:∀ ns:List Int,gf (ns.map PyData.int)=1923 * ns.length
 | []=>rfl
 | n :: ns=>by
   show gf (.int n :: ns.map PyData.int)=_
   unfold gf
   rw [dR ns]
   simp [wt]
   omega
noncomputable def jt (n:Int):Prop:=-(2 ^ 60) < n∧n < 2 ^ 60
theorem wY {n:Int}(h:jt n):PyData.showable (.int n)=true:=by
 unfold PyData.showable
 refine decide_eq_true ?_
 obtain ⟨h1,h2⟩:=h
 by_cases z:n.natAbs=0
 ·rw [z]; decide
 ·exact Nat.lt_trans ((Nat.log2_lt z).mpr (by omega:n.natAbs < 2 ^ 60)) (by decide)
theorem eR:∀ {ns:List Int},(∀ n∈ns,jt n)->PyData.showableAll (ns.map PyData.int)=true
 | [],_=>rfl
 | n :: ns,h=>by
   show PyData.showableAll (.int n :: ns.map PyData.int)=true
   unfold PyData.showableAll
   rw [wY (h n List.mem_cons_self),eR fun m hm=>h m (List.mem_cons_of_mem _ hm)]
   rfl
theorem eU:∀ ns:List Int,PyData.depthAll (ns.map PyData.int)=0
 | []=>rfl
 | n :: ns=>by
   show PyData.depthAll (.int n :: ns.map PyData.int)=0
   unfold PyData.depthAll
   rw [eU ns]
   rfl
noncomputable def Sm (d:PyData):Prop:=d.showable=true∧d.depth≤4∧wt d≤100000∧uv d≤100
noncomputable def Si (d:PyData):Prop:=d.showable=true∧d.depth≤1∧wt d≤2000
theorem Si.sm {d:PyData}(h:Si d)(hl:uv d≤100):Sm d:=⟨h.1,by have:=h.2.1; omega,by have:=h.2.2; omega,hl⟩
theorem jM {ds:List PyData}(h1:PyData.showableAll ds=true)(h2:PyData.depthAll ds≤2)(h3:gf ds≤90000)(h4:ds.length≤100):Sm (.tuple ds):=
 ⟨by unfold PyData.showable; exact h1,by unfold PyData.depth; omega,by unfold wt; omega,h4⟩
theorem jI {ds:List PyData}(h1:PyData.showableAll ds=true)(h2:PyData.depthAll ds≤2)(h3:gf ds≤90000)(h4:ds.length≤100):Sm (.list ds):=
 ⟨by unfold PyData.showable; exact h1,by unfold PyData.depth; omega,by unfold wt; omega,h4⟩
theorem cH (ns:List Int)(lo hi:Option Int):∃ ms:List Int,eK (ns.map V.int) lo hi=ms.map V.int∧ms.length≤ns.length∧∀ m∈ms,m∈ns:=by
 unfold eK
 rw [← List.map_drop,← List.map_take]
 refine ⟨_,rfl,?_,fun m hm=>List.mem_of_mem_drop (List.mem_of_mem_take hm)⟩
 rw [List.length_take,List.length_drop]
 omega
theorem mJ {xs:List V}{z:Int}(h0:0≤z)(h1:z < (xs.length:Int)):∃ v,mj xs z=some v∧v∈xs:=by
 obtain ⟨k,rfl⟩:∃ k:Nat,z=(k:Int):=⟨z.toNat,by omega⟩
 have hk:k < xs.length:=by omega
 exact ⟨xs[k],gN (by simp [hk]),List.getElem_mem hk⟩
theorem aH.same {H H':Hp}{r:Addr}(h:aH H r)(s:au H H'):aH H' r:=by
 obtain ⟨l,x,e,h⟩:=h
 exact ⟨l,x,s _ _ e,h⟩
theorem aH.ne {H:Hp}{r a:Addr}(h:aH H r)(e:H a=none):a≠r:=fun z=>by
 obtain ⟨l,x,h,_⟩:=h
 rw [z,h] at e
 cases e
noncomputable abbrev Au:Stmt:=aY 55
noncomputable abbrev vW:Stmt:=aY 56
noncomputable def spLikeT:Sp:=fun vs H Q _=>∃ (a:Addr)(xs:List V)(x:V),vs=[.ref a,x]∧H a=some (.tup xs)∧∀ p,H p=none->Q (.ref p) (upd H p (.tup [x]))
noncomputable def spLikeL:Sp:=fun vs H Q _=>∃ (a:Addr)(xs:List V)(x:V),vs=[.ref a,x]∧H a=some (.lst xs)∧∀ p,H p=none->Q (.ref p) (upd H p (.lst [x]))
noncomputable def spOddT:Sp:=fun vs H Q _=>∃ (r a:Addr)(ns:List Int)(j:Int),vs=[.ref r,.ref a,.int j]∧aH H r∧H a=some (.tup (ns.map V.int))∧ns.length≤20∧(∀ n∈ns,jt n)∧jt j∧∀ y H' d,aH H' r->SameBut r H H'->Dt r H' d y->Sm d->Q y H'
noncomputable def spOddL:Sp:=fun vs H Q _=>∃ (r a:Addr)(ns:List Int)(j:Int),vs=[.ref r,.ref a,.int j]∧a≠r∧aH H r∧H a=some (.lst (ns.map V.int))∧ns.length≤20∧(∀ n∈ns,jt n)∧jt j∧∀ y H' d,aH H' r->SameBut r H H'->Dt r H' d y->Sm d->Q y H'
theorem wc:FnScope ["_law_row","_law_thing"] ["_law_row","_law_thing"] (aj vW):=⟨rfl,rfl,rfl,by decide +kernel,rfl,by decide +kernel,by decide +kernel⟩
theorem i5:FnScope ["_law_room_here","_law_row","_law_spare","_law_at","_law_thing","_law_way"] ["_law_room_here","_law_row","_law_spare"] (aj Au):=⟨rfl,rfl,rfl,by decide +kernel,rfl,by decide +kernel,by decide +kernel⟩
theorem xq {r:Addr}{H:Hp}(i:Int):Dt r H (.int i) (.int i):=by unfold Dt; rfl
theorem y6 {r a:Addr}{H:Hp}{xs:List V}{ds:List PyData}(e:H a=some (.tup xs))(h:dz r H ds xs):Dt r H (.tuple ds) (.ref a):=by unfold Dt; exact ⟨a,xs,rfl,e,h⟩
theorem yX {r a:Addr}{H:Hp}{xs:List V}{ds:List PyData}(n:a≠r)(e:H a=some (.lst xs))(h:dz r H ds xs):Dt r H (.list ds) (.ref a):=by unfold Dt; exact ⟨a,xs,rfl,n,e,h⟩
theorem xn {n:Int}(h:jt n):Si (.int n):=⟨wY h,by unfold PyData.depth; decide,by unfold wt; decide⟩
theorem m8 {ms ks:List Int}{es:List PyData}(h1:ms.length≤20)(h2:ks.length≤20)(s1:∀ n∈ms,jt n)(s2:∀ n∈ks,jt n)(he:∀ e∈es,Si e)(hl:es.length≤1):PyData.showableAll (ms.map PyData.int++es++ks.map PyData.int)=true∧PyData.depthAll (ms.map PyData.int++es++ks.map PyData.int)≤2 ∧
 gf (ms.map PyData.int++es++ks.map PyData.int)≤90000∧(ms.map PyData.int++es++ks.map PyData.int).length≤100:=by
 have z:PyData.showableAll es=true∧PyData.depthAll es≤2∧gf es≤2002:=by
  match es,hl with
  | [],_=>exact ⟨rfl,by unfold PyData.depthAll; decide,by unfold gf; decide⟩
  | [e],_ =>
    obtain ⟨a,b,c⟩:=he e List.mem_cons_self
    refine ⟨?_,?_,?_⟩
    ·rw [PyData.showableAll,a]; rfl
    ·rw [PyData.depthAll,PyData.depthAll]; omega
    ·rw [gf,gf]; omega
 obtain ⟨z1,z2,z3⟩:=z
 refine ⟨?_,?_,?_,?_⟩
 ·rw [iB,iB,eR s1,eR s2,z1]; rfl
 ·rw [iH,iH,eU,eU]; omega
 ·rw [gA,gA,dR,dR]; omega
 ·simp; omega
theorem BF:Si .none:=⟨rfl,by unfold PyData.depth; decide,by unfold wt; decide⟩
theorem CK (b:Bool):Si (.bool b):=⟨rfl,by unfold PyData.depth; decide,by unfold wt; decide⟩
theorem Bt:Si (.tuple [.int 0]):=by unfold Si; decide +kernel
theorem A1:Si (.list [.int 0]):=by unfold Si; decide +kernel
theorem CJ:Si (.dict []):=by unfold Si; decide +kernel
theorem CP:wt (.str "0")≤2000:=by decide +kernel
theorem By:wt (.str "01")≤2000:=by decide +kernel
section
variable {P:Program}{w:World}{K:PySem.W.Frag}{mg:Str->Option Value}{base:Heap}
theorem vH {f:Addr}{fd:FuncData}(F:Fun K "_law_like" "_law_like" vW f fd)(m_isinstance:mg "isinstance"=none)(m_tuple:mg "tuple"=none):FnOk P w K mg base (aU P w) 1 f fd ["_law_row","_law_thing"] spLikeT:=by
 refine F.okN wc (fun vs H Q E h=>?_) (fun cdv A outer s H vs Q E hr h=>?_)
 ·obtain ⟨a,xs,x,rfl,_⟩:=h
  rfl
 ·obtain ⟨a,xs,x,rfl,ha,q⟩:=h
  refine ⟨_,(ai (a7 (bw (ar aN (by rfl) m_isinstance (by rfl) (@ag _ _ _ _ _ (pv 0) (@ag _ _ _ _ _ (ck (by rfl) m_tuple (by rfl) (show aB (.ty "tuple") (.type "tuple") from rfl)) ad rfl) rfl))) (am (av (@bH _ _ _ _ _ (@ag _ _ _ _ _ (pv 1) ad rfl)))) aC)
   (am (av (@bq _ _ _ _ (@ag _ _ _ _ _ (pv 1) ad rfl))))),?_⟩
  exact ⟨_,rfl,.ref a,.ty "tuple",_,_,_,rfl,rfl,.of (.tup ha),rfl,_,rfl,br ⟨_,rfl,(by show 1≤sizeLine; decide),q⟩⟩
theorem x8 {f ft fk:Addr}{fd fdt fdk:FuncData}(F:Fun K "_law_odd" "_law_odd" Au f fd)(m_max:mg "max"=none)(m_len:mg "len"=none)(m_list:mg "list"=none)(m_tuple:mg "tuple"=none)
 (FT:FnOk P w K mg base (aU P w) 1 ft fdt ["_law_room_here","_law_many"] spTake)(bT:L2.ax K fdt ["_law_room_here","_law_many"] [])(mT:mg "_law_take"=some (.ref ft))(kT:keepIn K (.ref ft)=true)
 (FK:FnOk P w K mg base (aU P w) 1 fk fdk ["_law_row","_law_thing"] spLikeT)(bK:L2.ax K fdk ["_law_row","_law_thing"] [])(mK:mg "_law_like"=some (.ref fk))(kK:keepIn K (.ref fk)=true):
 FnOk P w K mg base (aU P w) 2 f fd ["_law_room_here","_law_row","_law_spare"] spOddT:=by
 refine F.okN i5 (fun vs H Q E h=>?_) (fun cdv A outer s H vs Q E hr h=>?_)
 ·obtain ⟨r,a,ns,j,rfl,_⟩:=h
  rfl
 ·obtain ⟨r,a,ns,j,rfl,hR,ha,hl,hns,hj,q⟩:=h
  have hr1:Room 1 _:=hr.mono (by decide)
  refine ⟨_,(ai (@aK _ _ 3 _ _ _ _ i5.nd rfl (Or.inl rfl) (aq FT hr1 (by rfl) mT kT bT .nil ae (@ag _ _ _ _ _ (pv 0) (@ag _ _ _ _ _ (ar (iJ rfl) (by rfl) m_max (by rfl) (@ag _ _ _ _ _ ah (@ag _ _ _ _ _ (ar aQ (by rfl) m_len PySem.boot_len (@ag _ _ _ _ _ (pv 1) ad rfl)) ad rfl) rfl)) ad rfl) rfl)) rfl (Or.inl rfl))
   (ai (@aK _ _ 4 _ _ _ _ i5.nd rfl (Or.inl rfl) (@aW _ _ _ _ _ _ _ aZ (@bq _ _ _ _ (@ag _ _ _ _ _ iz (@ag _ _ _ _ _ c9 (@ag _ _ _ _ _ (@az _ _ _ _ _ _ _ _ iD ah ah) (@ag _ _ _ _ _ ah (@ag _ _ _ _ _ ah (@ag _ _ _ _ _ cn (@ag _ _ _ _ _ (@bH _ _ _ _ _ (@ag _ _ _ _ _ ah ad rfl)) (@ag _ _ _ _ _ (@bq _ _ _ _ (@ag _ _ _ _ _ ah ad rfl)) (@ag _ _ _ _ _ (pv 2) ad rfl) rfl) rfl) rfl) rfl) rfl) rfl) rfl) rfl)) (aq FT hr1 (by rfl) mT kT bT .nil ae (@ag _ _ _ _ _ (pv 0) (@ag _ _ _ _ _ ah ad rfl) rfl)) (fun _ _=>rfl)) rfl (Or.inl rfl))
   (ai (@aK _ _ 5 _ _ _ _ i5.nd rfl (Or.inl rfl) (aq FT hr1 (by rfl) mT kT bT .nil ae (@ag _ _ _ _ _ (pv 0) (@ag _ _ _ _ _ ah ad rfl) rfl)) rfl (Or.inl rfl))
   (ai (a7 (@aF _ _ _ _ _ _ _ _ cI (pv 5) ah (aG _)) (am (av (@aW _ _ _ _ _ _ _ aZ (@bq _ _ _ _ (@ag _ _ _ _ _ (b8 eY (by rfl) m_list (by rfl) (@ag _ _ _ _ _ (pv 1) ad rfl)) (@ag _ _ _ _ _ (b8 cE (by rfl) m_tuple (by rfl) (@ag _ _ _ _ _ (pv 1) ad rfl)) (@ag _ _ _ _ _ iz (@ag _ _ _ _ _ cn (@ag _ _ _ _ _ oW (@ag _ _ _ _ _ ah ad rfl) rfl) rfl) rfl) rfl) rfl)) (aq FT hr1 (by rfl) mT kT bT .nil ae (@ag _ _ _ _ _ (pv 0) (@ag _ _ _ _ _ ah ad rfl) rfl)) (fun _ _=>rfl)))) aC)
   (ai (a7 (@aF _ _ _ _ _ _ _ _ cI (pv 5) ah (aG _)) (am (av (@az _ _ _ _ _ _ _ _ nI (cy hV (pv 1) cT (cW (pv 3))) (cy hV (pv 1) (cW (@az _ _ _ _ _ _ _ _ cr (pv 3) ah)) cT)))) aC)
   (am (av (@az _ _ _ _ _ _ _ _ nI (@az _ _ _ _ _ _ _ _ nI (cy hV (pv 1) cT (cW (pv 3))) (aq FK hr1 (by rfl) mK kK bK .nil ae (@ag _ _ _ _ _ (pv 1) (@ag _ _ _ _ _ (pv 4) ad rfl) rfl))) (cy hV (pv 1) (cW (@az _ _ _ _ _ _ _ _ cr (pv 3) ah)) cT))))))))),?_⟩
  obtain ⟨l0,x0,h0,a0,a1⟩:=id hR
  have hm:∃ m:Int,(if ((ns.map V.int).length:Int) > 1 then ((ns.map V.int).length:Int) else 1)=m∧0 < m∧m < 18446744073709551616:=by
   rw [List.length_map]
   exact ⟨_,rfl,by split <;> omega,by split <;> omega⟩
  obtain ⟨m,em,m0,m1⟩:=hm
  refine ⟨_,rfl,_,rfl,a,_,rfl,.inr (bc.of ha),1,_,rfl,?_⟩
  rw [em]
  refine ⟨r,l0,x0,m,rfl,h0,a0,a1,m0,m1,fun at_ l1 x1 z0 z1 b0 b1=>?_⟩
  have R1:aH (upd H r (.lst [.int l1,.int x1])) r:=⟨l1,x1,ac,b0,b1⟩
  have sb1:SameBut r H (upd H r (.lst [.int l1,.int x1])):=SameBut.upd
  generalize upd H r (.lst [.int l1,.int x1])=H1 at R1 sb1 ⊢
  have k1:=aD.but hR sb1
  have ha1:=k1.tup _ _ ha
  refine ⟨_,_,rfl,rfl,(by show 1≤sizeLine; decide),fun t1 ht1=>?_⟩
  have s1:=ak (o:=.tup [.int 0]) ht1
  have e1:upd H1 t1 (.tup [.int 0]) t1=some (.tup [.int 0]):=ac
  generalize upd H1 t1 (.tup [.int 0])=H2 at s1 e1 ⊢
  refine ⟨(by show 1≤sizeLine; decide),fun t2 ht2=>?_⟩
  have s2:=ak (o:=.lst [.int 0]) ht2
  have e2:upd H2 t2 (.lst [.int 0]) t2=some (.lst [.int 0]):=ac
  have n2:t2≠r:=(R1.same s1).ne ht2
  generalize upd H2 t2 (.lst [.int 0])=H3 at s2 e2 ⊢
  refine ⟨_,rfl,(by show 9≤sizeLine; decide),fun t3 ht3=>?_⟩
  have hit:∀ v∈([.non,.bl true,.int (0 - 1),.int 2,.int 60,.str "0",.ref t1,.ref t2,.int j]:List V),∃ d,Dt r H3 d v∧Si d:=by
   intro v hv
   simp only [List.mem_cons,List.mem_nil_iff,or_false] at hv
   rcases hv with rfl | rfl | rfl | rfl | rfl | rfl | rfl | rfl | rfl
   ·exact ⟨.none,by unfold Dt; rfl,BF⟩
   ·exact ⟨.bool true,by unfold Dt; rfl,CK _⟩
   ·exact ⟨_,xq _,xn (by unfold jt; decide)⟩
   ·exact ⟨_,xq _,xn (by unfold jt; decide)⟩
   ·exact ⟨_,xq _,xn (by unfold jt; decide)⟩
   ·exact ⟨.str "0",by unfold Dt; rfl,rfl,by unfold PyData.depth; decide,CP⟩
   ·exact ⟨.tuple [.int 0],y6 (s2 _ _ e1) (bf [0]),Bt⟩
   ·exact ⟨.list [.int 0],yX n2 e2 (bf [0]),A1⟩
   ·exact ⟨_,xq _,xn hj⟩
  have s3:=ak (o:=.lst ([.non,.bl true,.int (0 - 1),.int 2,.int 60,.str "0",.ref t1,.ref t2,.int j]:List V)) ht3
  have e3:upd H3 t3 (.lst ([.non,.bl true,.int (0 - 1),.int 2,.int 60,.str "0",.ref t1,.ref t2,.int j]:List V)) t3=some (.lst ([.non,.bl true,.int (0 - 1),.int 2,.int 60,.str "0",.ref t1,.ref t2,.int j]:List V)):=ac
  dsimp only at s3 e3 ⊢
  generalize upd H3 t3 _=H4 at s3 e3 ⊢
  have n3:t3≠r:=(R1.same (s1.trans s2)).ne ht3
  have s14:=s1.trans (s2.trans s3)
  have R4:=R1.same s14
  have sb4:SameBut r H H4:=sb1.trans (SameBut.of s14)
  obtain ⟨l4,x4,h4,c0,c1⟩:=id R4
  refine ⟨_,rfl,r,l4,x4,9,rfl,h4,c0,c1,by decide,by decide,fun z l5 x5 y0 y1 d0 d1=>?_⟩
  have R5:aH (upd H4 r (.lst [.int l5,.int x5])) r:=⟨l5,x5,ac,d0,d1⟩
  have sb5:SameBut r H4 (upd H4 r (.lst [.int l5,.int x5])):=SameBut.upd
  generalize upd H4 r _=H5 at R5 sb5 ⊢
  have k5:aD r H4 H5:=aD.but R4 sb5
  obtain ⟨v,ev,hv⟩:=mJ (xs:=([.non,.bl true,.int (0 - 1),.int 2,.int 60,.str "0",.ref t1,.ref t2,.int j]:List V)) y0 (by show z < 9; exact y1)
  obtain ⟨dv,hdv,siv⟩:=hit v hv
  refine ⟨t3,_,z,v,rfl,rfl,aO.of (k5.lst n3 e3),ev,?_⟩
  have hdv5:=Dt.keep ((aD.of s3).trans k5) _ _ hdv
  have k05:aD r H H5:=k1.trans ((aD.of s14).trans k5)
  obtain ⟨l6,x6,h6,f0,f1⟩:=id R5
  refine ⟨_,rfl,r,l6,x6,4,rfl,h6,f0,f1,by decide,by decide,fun way l7 x7 w0 w1 g0 g1=>?_⟩
  have R6:aH (upd H5 r (.lst [.int l7,.int x7])) r:=⟨l7,x7,ac,g0,g1⟩
  have sb6:SameBut r H5 (upd H5 r (.lst [.int l7,.int x7])):=SameBut.upd
  generalize upd H5 r _=H6 at R6 sb6 ⊢
  have k6:aD r H5 H6:=aD.but R5 sb6
  have sb06:SameBut r H H6:=(sb4.trans sb5).trans sb6
  have hdv6:=Dt.keep k6 _ _ hdv5
  have kk6:=k05.trans k6
  have ha6:=kk6.tup _ _ ha
  clear hdv hdv5 k05 k5 k6 hit e1 e2 e3 s14 R4 h4 h6 hv ev
  refine ⟨_,rfl,rfl,_,rfl,?_⟩
  refine b7 (fun h=>?_) (fun h=>?_)
  ·refine ⟨_,rfl,a,_,rfl,.inr (bc.of ha6),fun b1 hb1=>?_⟩
   have n1:=R6.ne hb1
   have s7:=ak (o:=.lst (ns.map V.int)) hb1
   have e7:upd H6 b1 (.lst (ns.map V.int)) b1=some (.lst (ns.map V.int)):=ac
   generalize upd H6 b1 _=H7 at s7 e7 ⊢
   refine ⟨_,rfl,a,_,rfl,.inr ⟨bc.of (s7 _ _ ha6),?_⟩⟩
   have s8:au H7 H7:=au.refl _
   have e8:=s7 _ _ ha6
   obtain ⟨H8,eH8⟩:∃ H8,H8=H7:=⟨_,rfl⟩
   rw [← eH8] at s8 e8 ⊢
   obtain ⟨b2,eb2⟩:∃ b2,b2=a:=⟨_,rfl⟩
   rw [← eb2] at e8 ⊢
   intro b3 hb3
   have s8:au H7 H8:=eH8 ▸ au.refl _
   have s9:=ak (o:=.dK []) hb3
   have e9:upd H8 b3 (.dK []) b3=some (.dK []):=ac
   generalize upd H8 b3 _=H9 at s9 e9 ⊢
   have R9:=R6.same (s7.trans (s8.trans s9))
   refine ⟨(by show 6≤sizeLine; decide),fun b4 hb4=>?_⟩
   have n4:=R9.ne hb4
   have hit:∀ v∈([.ref b1,.ref b2,.non,.str "01",.ref b3,.int 0]:List V),∃ d,Dt r H9 d v∧Sm d:=by
    intro v hv
    simp only [List.mem_cons,List.mem_nil_iff,or_false] at hv
    have w1:PyData.showableAll (ns.map PyData.int)=true∧PyData.depthAll (ns.map PyData.int)≤2∧gf (ns.map PyData.int)≤90000∧(ns.map PyData.int).length≤100 :=
     ⟨eR hns,by rw [eU]; decide,by rw [dR]; omega,by rw [List.length_map]; omega⟩
    rcases hv with rfl | rfl | rfl | rfl | rfl | rfl
    ·exact ⟨_,yX n1 (s9 _ _ (s8 _ _ e7)) (bf ns),jI w1.1 w1.2.1 w1.2.2.1 w1.2.2.2⟩
    ·exact ⟨_,y6 (s9 _ _ e8) (bf ns),jM w1.1 w1.2.1 w1.2.2.1 w1.2.2.2⟩
    ·exact ⟨.none,by unfold Dt; rfl,BF.sm (by decide)⟩
    ·exact ⟨.str "01",by unfold Dt; rfl,Si.sm ⟨rfl,by unfold PyData.depth; decide,By⟩ (by decide)⟩
    ·exact ⟨.dict [],by unfold Dt; exact ⟨rfl,b3,rfl,e9⟩,Si.sm CJ (by decide)⟩
    ·exact ⟨_,xq _,Si.sm (xn (by unfold jt; decide)) (by unfold uv; decide)⟩
   have s10:=ak (o:=.lst ([.ref b1,.ref b2,.non,.str "01",.ref b3,.int 0]:List V)) hb4
   have e10:upd H9 b4 (.lst ([.ref b1,.ref b2,.non,.str "01",.ref b3,.int 0]:List V)) b4=some (.lst ([.ref b1,.ref b2,.non,.str "01",.ref b3,.int 0]:List V)):=ac
   dsimp only at s10 e10 ⊢
   generalize upd H9 b4 _=H10 at s10 e10 ⊢
   have R10:=R9.same s10
   obtain ⟨l11,x11,h11,i0,i1⟩:=id R10
   refine ⟨_,rfl,r,l11,x11,6,rfl,h11,i0,i1,by decide,by decide,fun u l12 x12 u0 u1 j0 j1=>?_⟩
   have R12:aH (upd H10 r (.lst [.int l12,.int x12])) r:=⟨l12,x12,ac,j0,j1⟩
   have sb12:SameBut r H10 (upd H10 r (.lst [.int l12,.int x12])):=SameBut.upd
   generalize upd H10 r _=H12 at R12 sb12 ⊢
   have k12:aD r H10 H12:=aD.but R10 sb12
   obtain ⟨v',ev',hv'⟩:=mJ (xs:=([.ref b1,.ref b2,.non,.str "01",.ref b3,.int 0]:List V)) u0 (by show u < 6; exact u1)
   obtain ⟨dv',hdv',siv'⟩:=hit v' hv'
   refine ⟨b4,_,u,v',rfl,rfl,aO.of (k12.lst n4 e10),ev',?_⟩
   exact q _ _ _ R12 (sb06.trans ((SameBut.of (s7.trans (s8.trans (s9.trans s10)))).trans sb12)) (Dt.keep ((aD.of s10).trans k12) _ _ hdv') siv'
  ·refine ⟨_,rfl,rfl,_,rfl,?_⟩
   refine b7 (fun h=>?_) (fun h=>?_)
   ·refine ⟨_,rfl,_,rfl,_,rfl,a,_,rfl,ha6,fun p1 H7 s7 e7=>?_⟩
    refine ⟨_,rfl,_,rfl,_,_,rfl,rfl,_,rfl,a,_,rfl,s7 _ _ ha6,fun p2 H8 s8 e8=>?_⟩
    obtain ⟨ms,em1,lm,mm⟩:=cH ns none (some at_)
    obtain ⟨ks,ek1,lk,mk⟩:=cH ns (some (at_ + 1)) none
    have e8:H8 p2=some (.tup (eK (ns.map V.int) (some (at_ + 1)) none)):=e8
    rw [em1] at e7
    rw [ek1] at e8
    refine ⟨p1,p2,_,_,rfl,rfl,s8 _ _ e7,e8,?_,fun p3 H9 s9 e9=>?_⟩
    ·rw [List.length_map,List.length_map]
     exact Nat.le_trans (show _≤40 by omega) (by decide)
    obtain ⟨w1,w2,w3,w4⟩:=m8 (es:=[]) (Nat.le_trans lm hl) (Nat.le_trans lk hl) (fun n hn=>hns n (mm n hn)) (fun n hn=>hns n (mk n hn)) (fun e he=>nomatch he) (by decide)
    rw [List.append_nil] at w1 w2 w3 w4
    have s69:=s7.trans (s8.trans s9)
    exact q _ _ _ (R6.same s69) (sb06.trans (SameBut.of s69)) (y6 e9 ((bf ms).append (bf ks))) (jM w1 w2 w3 w4)
   ·refine ⟨_,rfl,_,rfl,_,rfl,a,_,rfl,ha6,fun p1 H7 s7 e7=>?_⟩
    refine ⟨_,rfl,_,rfl,a,_,v,rfl,s7 _ _ ha6,fun p0 hp0=>?_⟩
    have s8:=ak (o:=.tup [v]) hp0
    have e8:upd H7 p0 (.tup [v]) p0=some (.tup [v]):=ac
    generalize upd H7 p0 _=H8 at s8 e8 ⊢
    obtain ⟨ms,em1,lm,mm⟩:=cH ns none (some at_)
    obtain ⟨ks,ek1,lk,mk⟩:=cH ns (some (at_ + 1)) none
    rw [em1] at e7
    refine ⟨p1,p0,_,_,rfl,rfl,s8 _ _ e7,e8,?_,fun p2 H9 s9 e9=>?_⟩
    ·rw [List.length_map]
     exact Nat.le_trans (show _≤40 by simp; omega) (by decide)
    refine ⟨_,rfl,_,rfl,_,_,rfl,rfl,_,rfl,a,_,rfl,s9 _ _ (s8 _ _ (s7 _ _ ha6)),fun p3 H10 s10 e10=>?_⟩
    have e10:H10 p3=some (.tup (eK (ns.map V.int) (some (at_ + 1)) none)):=e10
    rw [ek1] at e10
    refine ⟨p2,p3,_,_,rfl,rfl,s10 _ _ e9,e10,?_,fun p4 H11 s11 e11=>?_⟩
    ·rw [List.length_append,List.length_map,List.length_map]
     exact Nat.le_trans (show _≤60 by simp; omega) (by decide)
    obtain ⟨w1,w2,w3,w4⟩:=m8 (es:=[dv]) (Nat.le_trans lm hl) (Nat.le_trans lk hl) (fun n hn=>hns n (mm n hn)) (fun n hn=>hns n (mk n hn)) (fun e he=>by
     have:e=dv:=by simpa using he
     rw [this]; exact siv) (by simp)
    have s69:=s7.trans (s8.trans (s9.trans (s10.trans s11)))
    exact q _ _ _ (R6.same s69) (sb06.trans (SameBut.of s69)) (y6 e11 (((bf ms).append (dz.one (Dt.keep (aD.of s69) _ _ hdv6))).append (bf ks))) (jM w1 w2 w3 w4)
theorem wL {f:Addr}{fd:FuncData}(F:Fun K "_law_like" "_law_like" vW f fd)(m_isinstance:mg "isinstance"=none)(m_tuple:mg "tuple"=none):FnOk P w K mg base (aU P w) 1 f fd ["_law_row","_law_thing"] spLikeL:=by
 refine F.okN wc (fun vs H Q E h=>?_) (fun cdv A outer s H vs Q E hr h=>?_)
 ·obtain ⟨a,xs,x,rfl,_⟩:=h
  rfl
 ·obtain ⟨a,xs,x,rfl,ha,q⟩:=h
  refine ⟨_,(ai (a7 (bw (ar aN (by rfl) m_isinstance (by rfl) (@ag _ _ _ _ _ (pv 0) (@ag _ _ _ _ _ (ck (by rfl) m_tuple (by rfl) (show aB (.ty "tuple") (.type "tuple") from rfl)) ad rfl) rfl))) (am (av (@bH _ _ _ _ _ (@ag _ _ _ _ _ (pv 1) ad rfl)))) aC)
   (am (av (@bq _ _ _ _ (@ag _ _ _ _ _ (pv 1) ad rfl))))),?_⟩
  exact ⟨_,rfl,.ref a,.ty "tuple",_,_,_,rfl,rfl,.of (.lst ha),rfl,_,rfl,bx ⟨_,rfl,(by show 1≤sizeLine; decide),q⟩⟩
theorem yi {f ft fk:Addr}{fd fdt fdk:FuncData}(F:Fun K "_law_odd" "_law_odd" Au f fd)(m_max:mg "max"=none)(m_len:mg "len"=none)(m_list:mg "list"=none)(m_tuple:mg "tuple"=none)
 (FT:FnOk P w K mg base (aU P w) 1 ft fdt ["_law_room_here","_law_many"] spTake)(bT:L2.ax K fdt ["_law_room_here","_law_many"] [])(mT:mg "_law_take"=some (.ref ft))(kT:keepIn K (.ref ft)=true)
 (FK:FnOk P w K mg base (aU P w) 1 fk fdk ["_law_row","_law_thing"] spLikeL)(bK:L2.ax K fdk ["_law_row","_law_thing"] [])(mK:mg "_law_like"=some (.ref fk))(kK:keepIn K (.ref fk)=true):
 FnOk P w K mg base (aU P w) 2 f fd ["_law_room_here","_law_row","_law_spare"] spOddL:=by
 refine F.okN i5 (fun vs H Q E h=>?_) (fun cdv A outer s H vs Q E hr h=>?_)
 ·obtain ⟨r,a,ns,j,rfl,_⟩:=h
  rfl
 ·obtain ⟨r,a,ns,j,rfl,nar,hR,ha,hl,hns,hj,q⟩:=h
  have hr1:Room 1 _:=hr.mono (by decide)
  refine ⟨_,(ai (@aK _ _ 3 _ _ _ _ i5.nd rfl (Or.inl rfl) (aq FT hr1 (by rfl) mT kT bT .nil ae (@ag _ _ _ _ _ (pv 0) (@ag _ _ _ _ _ (ar (iJ rfl) (by rfl) m_max (by rfl) (@ag _ _ _ _ _ ah (@ag _ _ _ _ _ (ar aQ (by rfl) m_len PySem.boot_len (@ag _ _ _ _ _ (pv 1) ad rfl)) ad rfl) rfl)) ad rfl) rfl)) rfl (Or.inl rfl))
   (ai (@aK _ _ 4 _ _ _ _ i5.nd rfl (Or.inl rfl) (@aW _ _ _ _ _ _ _ aZ (@bq _ _ _ _ (@ag _ _ _ _ _ iz (@ag _ _ _ _ _ c9 (@ag _ _ _ _ _ (@az _ _ _ _ _ _ _ _ iD ah ah) (@ag _ _ _ _ _ ah (@ag _ _ _ _ _ ah (@ag _ _ _ _ _ cn (@ag _ _ _ _ _ (@bH _ _ _ _ _ (@ag _ _ _ _ _ ah ad rfl)) (@ag _ _ _ _ _ (@bq _ _ _ _ (@ag _ _ _ _ _ ah ad rfl)) (@ag _ _ _ _ _ (pv 2) ad rfl) rfl) rfl) rfl) rfl) rfl) rfl) rfl) rfl)) (aq FT hr1 (by rfl) mT kT bT .nil ae (@ag _ _ _ _ _ (pv 0) (@ag _ _ _ _ _ ah ad rfl) rfl)) (fun _ _=>rfl)) rfl (Or.inl rfl))
   (ai (@aK _ _ 5 _ _ _ _ i5.nd rfl (Or.inl rfl) (aq FT hr1 (by rfl) mT kT bT .nil ae (@ag _ _ _ _ _ (pv 0) (@ag _ _ _ _ _ ah ad rfl) rfl)) rfl (Or.inl rfl))
   (ai (a7 (@aF _ _ _ _ _ _ _ _ cI (pv 5) ah (aG _)) (am (av (@aW _ _ _ _ _ _ _ aZ (@bq _ _ _ _ (@ag _ _ _ _ _ (b8 eY (by rfl) m_list (by rfl) (@ag _ _ _ _ _ (pv 1) ad rfl)) (@ag _ _ _ _ _ (b8 cE (by rfl) m_tuple (by rfl) (@ag _ _ _ _ _ (pv 1) ad rfl)) (@ag _ _ _ _ _ iz (@ag _ _ _ _ _ cn (@ag _ _ _ _ _ oW (@ag _ _ _ _ _ ah ad rfl) rfl) rfl) rfl) rfl) rfl)) (aq FT hr1 (by rfl) mT kT bT .nil ae (@ag _ _ _ _ _ (pv 0) (@ag _ _ _ _ _ ah ad rfl) rfl)) (fun _ _=>rfl)))) aC)
   (ai (a7 (@aF _ _ _ _ _ _ _ _ cI (pv 5) ah (aG _)) (am (av (@az _ _ _ _ _ _ _ _ mD (cy fQ (pv 1) cT (cW (pv 3))) (cy fQ (pv 1) (cW (@az _ _ _ _ _ _ _ _ cr (pv 3) ah)) cT)))) aC)
   (am (av (@az _ _ _ _ _ _ _ _ mD (@az _ _ _ _ _ _ _ _ mD (cy fQ (pv 1) cT (cW (pv 3))) (aq FK hr1 (by rfl) mK kK bK .nil ae (@ag _ _ _ _ _ (pv 1) (@ag _ _ _ _ _ (pv 4) ad rfl) rfl))) (cy fQ (pv 1) (cW (@az _ _ _ _ _ _ _ _ cr (pv 3) ah)) cT))))))))),?_⟩
  obtain ⟨l0,x0,h0,a0,a1⟩:=id hR
  have hm:∃ m:Int,(if ((ns.map V.int).length:Int) > 1 then ((ns.map V.int).length:Int) else 1)=m∧0 < m∧m < 18446744073709551616:=by
   rw [List.length_map]
   exact ⟨_,rfl,by split <;> omega,by split <;> omega⟩
  obtain ⟨m,em,m0,m1⟩:=hm
  refine ⟨_,rfl,_,rfl,a,_,rfl,.inl (aO.of ha),1,_,rfl,?_⟩
  rw [em]
  refine ⟨r,l0,x0,m,rfl,h0,a0,a1,m0,m1,fun at_ l1 x1 z0 z1 b0 b1=>?_⟩
  have R1:aH (upd H r (.lst [.int l1,.int x1])) r:=⟨l1,x1,ac,b0,b1⟩
  have sb1:SameBut r H (upd H r (.lst [.int l1,.int x1])):=SameBut.upd
  generalize upd H r (.lst [.int l1,.int x1])=H1 at R1 sb1 ⊢
  have k1:=aD.but hR sb1
  have ha1:=k1.lst nar ha
  refine ⟨_,_,rfl,rfl,(by show 1≤sizeLine; decide),fun t1 ht1=>?_⟩
  have s1:=ak (o:=.tup [.int 0]) ht1
  have e1:upd H1 t1 (.tup [.int 0]) t1=some (.tup [.int 0]):=ac
  generalize upd H1 t1 (.tup [.int 0])=H2 at s1 e1 ⊢
  refine ⟨(by show 1≤sizeLine; decide),fun t2 ht2=>?_⟩
  have s2:=ak (o:=.lst [.int 0]) ht2
  have e2:upd H2 t2 (.lst [.int 0]) t2=some (.lst [.int 0]):=ac
  have n2:t2≠r:=(R1.same s1).ne ht2
  generalize upd H2 t2 (.lst [.int 0])=H3 at s2 e2 ⊢
  refine ⟨_,rfl,(by show 9≤sizeLine; decide),fun t3 ht3=>?_⟩
  have hit:∀ v∈([.non,.bl true,.int (0 - 1),.int 2,.int 60,.str "0",.ref t1,.ref t2,.int j]:List V),∃ d,Dt r H3 d v∧Si d:=by
   intro v hv
   simp only [List.mem_cons,List.mem_nil_iff,or_false] at hv
   rcases hv with rfl | rfl | rfl | rfl | rfl | rfl | rfl | rfl | rfl
   ·exact ⟨.none,by unfold Dt; rfl,BF⟩
   ·exact ⟨.bool true,by unfold Dt; rfl,CK _⟩
   ·exact ⟨_,xq _,xn (by unfold jt; decide)⟩
   ·exact ⟨_,xq _,xn (by unfold jt; decide)⟩
   ·exact ⟨_,xq _,xn (by unfold jt; decide)⟩
   ·exact ⟨.str "0",by unfold Dt; rfl,rfl,by unfold PyData.depth; decide,CP⟩
   ·exact ⟨.tuple [.int 0],y6 (s2 _ _ e1) (bf [0]),Bt⟩
   ·exact ⟨.list [.int 0],yX n2 e2 (bf [0]),A1⟩
   ·exact ⟨_,xq _,xn hj⟩
  have s3:=ak (o:=.lst ([.non,.bl true,.int (0 - 1),.int 2,.int 60,.str "0",.ref t1,.ref t2,.int j]:List V)) ht3
  have e3:upd H3 t3 (.lst ([.non,.bl true,.int (0 - 1),.int 2,.int 60,.str "0",.ref t1,.ref t2,.int j]:List V)) t3=some (.lst ([.non,.bl true,.int (0 - 1),.int 2,.int 60,.str "0",.ref t1,.ref t2,.int j]:List V)):=ac
  dsimp only at s3 e3 ⊢
  generalize upd H3 t3 _=H4 at s3 e3 ⊢
  have n3:t3≠r:=(R1.same (s1.trans s2)).ne ht3
  have s14:=s1.trans (s2.trans s3)
  have R4:=R1.same s14
  have sb4:SameBut r H H4:=sb1.trans (SameBut.of s14)
  obtain ⟨l4,x4,h4,c0,c1⟩:=id R4
  refine ⟨_,rfl,r,l4,x4,9,rfl,h4,c0,c1,by decide,by decide,fun z l5 x5 y0 y1 d0 d1=>?_⟩
  have R5:aH (upd H4 r (.lst [.int l5,.int x5])) r:=⟨l5,x5,ac,d0,d1⟩
  have sb5:SameBut r H4 (upd H4 r (.lst [.int l5,.int x5])):=SameBut.upd
  generalize upd H4 r _=H5 at R5 sb5 ⊢
  have k5:aD r H4 H5:=aD.but R4 sb5
  obtain ⟨v,ev,hv⟩:=mJ (xs:=([.non,.bl true,.int (0 - 1),.int 2,.int 60,.str "0",.ref t1,.ref t2,.int j]:List V)) y0 (by show z < 9; exact y1)
  obtain ⟨dv,hdv,siv⟩:=hit v hv
  refine ⟨t3,_,z,v,rfl,rfl,aO.of (k5.lst n3 e3),ev,?_⟩
  have hdv5:=Dt.keep ((aD.of s3).trans k5) _ _ hdv
  have k05:aD r H H5:=k1.trans ((aD.of s14).trans k5)
  obtain ⟨l6,x6,h6,f0,f1⟩:=id R5
  refine ⟨_,rfl,r,l6,x6,4,rfl,h6,f0,f1,by decide,by decide,fun way l7 x7 w0 w1 g0 g1=>?_⟩
  have R6:aH (upd H5 r (.lst [.int l7,.int x7])) r:=⟨l7,x7,ac,g0,g1⟩
  have sb6:SameBut r H5 (upd H5 r (.lst [.int l7,.int x7])):=SameBut.upd
  generalize upd H5 r _=H6 at R6 sb6 ⊢
  have k6:aD r H5 H6:=aD.but R5 sb6
  have sb06:SameBut r H H6:=(sb4.trans sb5).trans sb6
  have hdv6:=Dt.keep k6 _ _ hdv5
  have kk6:=k05.trans k6
  have ha6:=kk6.lst nar ha
  clear hdv hdv5 k05 k5 k6 hit e1 e2 e3 s14 R4 h4 h6 hv ev
  refine ⟨_,rfl,rfl,_,rfl,?_⟩
  refine b7 (fun h=>?_) (fun h=>?_)
  ·refine ⟨_,rfl,a,_,rfl,.inl (aO.of ha6),fun b1 hb1=>?_⟩
   have n1:=R6.ne hb1
   have s7:=ak (o:=.lst (ns.map V.int)) hb1
   have e7:upd H6 b1 (.lst (ns.map V.int)) b1=some (.lst (ns.map V.int)):=ac
   generalize upd H6 b1 _=H7 at s7 e7 ⊢
   refine ⟨_,rfl,a,_,rfl,.inl ⟨aO.of (s7 _ _ ha6),fun b2 hb2=>?_⟩⟩
   have s8:=ak (o:=.tup (ns.map V.int)) hb2
   have e8:upd H7 b2 (.tup (ns.map V.int)) b2=some (.tup (ns.map V.int)):=ac
   generalize upd H7 b2 _=H8 at s8 e8 ⊢
   intro b3 hb3
   have s9:=ak (o:=.dK []) hb3
   have e9:upd H8 b3 (.dK []) b3=some (.dK []):=ac
   generalize upd H8 b3 _=H9 at s9 e9 ⊢
   have R9:=R6.same (s7.trans (s8.trans s9))
   refine ⟨(by show 6≤sizeLine; decide),fun b4 hb4=>?_⟩
   have n4:=R9.ne hb4
   have hit:∀ v∈([.ref b1,.ref b2,.non,.str "01",.ref b3,.int 0]:List V),∃ d,Dt r H9 d v∧Sm d:=by
    intro v hv
    simp only [List.mem_cons,List.mem_nil_iff,or_false] at hv
    have w1:PyData.showableAll (ns.map PyData.int)=true∧PyData.depthAll (ns.map PyData.int)≤2∧gf (ns.map PyData.int)≤90000∧(ns.map PyData.int).length≤100 :=
     ⟨eR hns,by rw [eU]; decide,by rw [dR]; omega,by rw [List.length_map]; omega⟩
    rcases hv with rfl | rfl | rfl | rfl | rfl | rfl
    ·exact ⟨_,yX n1 (s9 _ _ (s8 _ _ e7)) (bf ns),jI w1.1 w1.2.1 w1.2.2.1 w1.2.2.2⟩
    ·exact ⟨_,y6 (s9 _ _ e8) (bf ns),jM w1.1 w1.2.1 w1.2.2.1 w1.2.2.2⟩
    ·exact ⟨.none,by unfold Dt; rfl,BF.sm (by decide)⟩
    ·exact ⟨.str "01",by unfold Dt; rfl,Si.sm ⟨rfl,by unfold PyData.depth; decide,By⟩ (by decide)⟩
    ·exact ⟨.dict [],by unfold Dt; exact ⟨rfl,b3,rfl,e9⟩,Si.sm CJ (by decide)⟩
    ·exact ⟨_,xq _,Si.sm (xn (by unfold jt; decide)) (by unfold uv; decide)⟩
   have s10:=ak (o:=.lst ([.ref b1,.ref b2,.non,.str "01",.ref b3,.int 0]:List V)) hb4
   have e10:upd H9 b4 (.lst ([.ref b1,.ref b2,.non,.str "01",.ref b3,.int 0]:List V)) b4=some (.lst ([.ref b1,.ref b2,.non,.str "01",.ref b3,.int 0]:List V)):=ac
   dsimp only at s10 e10 ⊢
   generalize upd H9 b4 _=H10 at s10 e10 ⊢
   have R10:=R9.same s10
   obtain ⟨l11,x11,h11,i0,i1⟩:=id R10
   refine ⟨_,rfl,r,l11,x11,6,rfl,h11,i0,i1,by decide,by decide,fun u l12 x12 u0 u1 j0 j1=>?_⟩
   have R12:aH (upd H10 r (.lst [.int l12,.int x12])) r:=⟨l12,x12,ac,j0,j1⟩
   have sb12:SameBut r H10 (upd H10 r (.lst [.int l12,.int x12])):=SameBut.upd
   generalize upd H10 r _=H12 at R12 sb12 ⊢
   have k12:aD r H10 H12:=aD.but R10 sb12
   obtain ⟨v',ev',hv'⟩:=mJ (xs:=([.ref b1,.ref b2,.non,.str "01",.ref b3,.int 0]:List V)) u0 (by show u < 6; exact u1)
   obtain ⟨dv',hdv',siv'⟩:=hit v' hv'
   refine ⟨b4,_,u,v',rfl,rfl,aO.of (k12.lst n4 e10),ev',?_⟩
   exact q _ _ _ R12 (sb06.trans ((SameBut.of (s7.trans (s8.trans (s9.trans s10)))).trans sb12)) (Dt.keep ((aD.of s10).trans k12) _ _ hdv') siv'
  ·refine ⟨_,rfl,rfl,_,rfl,?_⟩
   refine b7 (fun h=>?_) (fun h=>?_)
   ·refine ⟨_,rfl,_,rfl,_,rfl,a,_,rfl,ha6,fun p1 H7 f7 s7 e7=>?_⟩
    refine ⟨_,rfl,_,rfl,_,_,rfl,rfl,_,rfl,a,_,rfl,s7 _ _ ha6,fun p2 H8 f8 s8 e8=>?_⟩
    obtain ⟨ms,em1,lm,mm⟩:=cH ns none (some at_)
    obtain ⟨ks,ek1,lk,mk⟩:=cH ns (some (at_ + 1)) none
    have e8:H8 p2=some (.lst (eK (ns.map V.int) (some (at_ + 1)) none)):=e8
    rw [em1] at e7
    rw [ek1] at e8
    refine ⟨p1,p2,_,_,rfl,rfl,s8 _ _ e7,e8,?_,fun p3 H9 f9 s9 e9=>?_⟩
    ·rw [List.length_map,List.length_map]
     exact Nat.le_trans (show _≤40 by omega) (by decide)
    obtain ⟨w1,w2,w3,w4⟩:=m8 (es:=[]) (Nat.le_trans lm hl) (Nat.le_trans lk hl) (fun n hn=>hns n (mm n hn)) (fun n hn=>hns n (mk n hn)) (fun e he=>nomatch he) (by decide)
    rw [List.append_nil] at w1 w2 w3 w4
    have s69:=s7.trans (s8.trans s9)
    exact q _ _ _ (R6.same s69) (sb06.trans (SameBut.of s69)) (yX ((R6.same (s7.trans s8)).ne f9) e9 ((bf ms).append (bf ks))) (jI w1 w2 w3 w4)
   ·refine ⟨_,rfl,_,rfl,_,rfl,a,_,rfl,ha6,fun p1 H7 f7 s7 e7=>?_⟩
    refine ⟨_,rfl,_,rfl,a,_,v,rfl,s7 _ _ ha6,fun p0 hp0=>?_⟩
    have s8:=ak (o:=.lst [v]) hp0
    have e8:upd H7 p0 (.lst [v]) p0=some (.lst [v]):=ac
    generalize upd H7 p0 _=H8 at s8 e8 ⊢
    obtain ⟨ms,em1,lm,mm⟩:=cH ns none (some at_)
    obtain ⟨ks,ek1,lk,mk⟩:=cH ns (some (at_ + 1)) none
    rw [em1] at e7
    refine ⟨p1,p0,_,_,rfl,rfl,s8 _ _ e7,e8,?_,fun p2 H9 f9 s9 e9=>?_⟩
    ·rw [List.length_map]
     exact Nat.le_trans (show _≤40 by simp; omega) (by decide)
    refine ⟨_,rfl,_,rfl,_,_,rfl,rfl,_,rfl,a,_,rfl,s9 _ _ (s8 _ _ (s7 _ _ ha6)),fun p3 H10 f10 s10 e10=>?_⟩
    have e10:H10 p3=some (.lst (eK (ns.map V.int) (some (at_ + 1)) none)):=e10
    rw [ek1] at e10
    refine ⟨p2,p3,_,_,rfl,rfl,s10 _ _ e9,e10,?_,fun p4 H11 f11 s11 e11=>?_⟩
    ·rw [List.length_append,List.length_map,List.length_map]
     exact Nat.le_trans (show _≤60 by simp; omega) (by decide)
    obtain ⟨w1,w2,w3,w4⟩:=m8 (es:=[dv]) (Nat.le_trans lm hl) (Nat.le_trans lk hl) (fun n hn=>hns n (mm n hn)) (fun n hn=>hns n (mk n hn)) (fun e he=>by
     have:e=dv:=by simpa using he
     rw [this]; exact siv) (by simp)
    have s69:=s7.trans (s8.trans (s9.trans (s10.trans s11)))
    exact q _ _ _ (R6.same s69) (sb06.trans (SameBut.of s69)) (yX ((R6.same (s7.trans (s8.trans (s9.trans s10)))).ne f11) e11 (((bf ms).append (dz.one (Dt.keep (aD.of s69) _ _ hdv6))).append (bf ks))) (jI w1 w2 w3 w4)
end
end K07
namespace K07
open PySem L2 PySem.W
noncomputable abbrev sY:Stmt:=aY 53
structure Refs (K:Frag)(mg:Str->Option Value)(FE NF NO NS:Addr):Prop where
 mFE:mg "FalseError"=some (.ref FE)
 mNF:mg "NoFilling"=some (.ref NF)
 mNO:mg "NoOrder"=some (.ref NO)
 mNS:mg "NoSums"=some (.ref NS)
 mVE:mg "ValueError"=none
 kNF:ExcK K NF
 kNO:ExcK K NO
 xNF:exmOne K (.ref NF) (.ref FE)=some true
 xNO:exmOne K (.ref NO) (.ref FE)=some true
 a1:kitOne K (.ref NF) (.ref NF)=some true
 a2:kitOne K (.ref NF) (.ref NO)=some false
 a3:kitOne K (.ref NF) (.ref NS)=some false
 a4:kitOne K (.ref NF) (.type "ValueError")=some true
 b1:kitOne K (.ref NO) (.ref NF)=some false
 b2:kitOne K (.ref NO) (.ref NO)=some true
 b3:kitOne K (.ref NO) (.ref NS)=some false
 b4:kitOne K (.ref NO) (.type "ValueError")=some true
noncomputable def nJ (P:Program)(w:World)(K:Frag)(mg:Str->Option Value)(base:Heap)(kk:Nat)(NF NO:Addr):Sp:=fun vs H Q _=>∃ (f:Addr)(φ:Hp->VK->XK->Prop),vs=[.ref f]∧sM P w K mg base kk f φ∧oN φ ∧
 φ H (fun _ H'=>Q (.str "told") H') fun cls _ H'=>(cls = .ref NF∧∀ H'',au H' H''->Q (.str "filling") H'')∨(cls = .ref NO∧∀ H'',au H' H''->Q (.str "order") H'')
section
variable {P:Program}{w:World}{K:PySem.W.Frag}{mg:Str->Option Value}{base:Heap}
theorem jB:FnScope ["_law_call","_law_kept","e","_law_kinds"] ["_law_call"] (aj sY):=⟨rfl,rfl,rfl,by decide +kernel,rfl,by decide +kernel,by decide +kernel⟩
theorem xX {f FE NF NO NS:Addr}{fd:FuncData}{kk:Nat}(F:Fun K "_law_kind" "_law_kind" sY f fd)(R:Refs K mg FE NF NO NS)(n:Nones mg):FnOk P w K mg base (aU P w) (kk + 1) f fd ["_law_call"] (nJ P w K mg base kk NF NO):=by
 refine F.okN jB (fun vs H Q E h=>?_) (fun cdv A outer s H vs Q E hr h=>?_)
 ·obtain ⟨f,φ,rfl,_⟩:=h
  rfl
 ·obtain ⟨g,φ,rfl,C,mono,q⟩:=h
  refine ⟨_,ai (aK (i:=1) jB.nd rfl (Or.inl rfl) iz)
   (ai (Aw (i:=2) rfl rfl jB.nd rfl rfl (by rfl) R.mFE (fun pins E'=>am (ny (show PE (Cx.tr (gr (aU P w) P w K mg base ["_law_call","_law_kept","e","_law_kinds"] "_law_kind" (aj sY) f cdv A outer s H E).nox pins E') _ (vU P w K mg base kk 0 E') from vA (X:=(Cx.tr (gr (aU P w) P w K mg base ["_law_call","_law_kept","e","_law_kinds"] "_law_kind" (aj sY) f cdv A outer s H E).nox pins E')) (E:=E') (i:=0) hr qt (pv 0)))) (fun a=>am (aK (i:=1) jB.nd rfl (Or.inl rfl) (pv 2))))
   (ai (a7 (vZ (zR (pv 1))) (am (av cn)) aC)
   (ai (aK (i:=3) jB.nd rfl (Or.inl rfl) (bq
    (aR (ar aN (by rfl) n.isi (by rfl) (aR (pv 1) (aR (di (by rfl) R.mNF (show aB (.ref NF) (.ref NF) from rfl)) ad)))
    (aR (ar aN (by rfl) n.isi (by rfl) (aR (pv 1) (aR (di (by rfl) R.mNO (show aB (.ref NO) (.ref NO) from rfl)) ad)))
    (aR (ar aN (by rfl) n.isi (by rfl) (aR (pv 1) (aR (di (by rfl) R.mNS (show aB (.ref NS) (.ref NS) from rfl)) ad))) ad)))))
   (ai (a7 (PW.pt (dQ (aF iU (og PySem.F.plainAttrs_list PySem.F.slot_list_count PySem.F.type_list_count wd (pv 3) (aR c9 ad)) ah (aG _))
    (cN (bY (bw (ar aN (by rfl) n.isi (by rfl) (aR (pv 1) (aR (ck (by rfl) R.mVE (by rfl) (show aB (.ty "ValueError") (.type "ValueError") from rfl)) ad)))))))) (am (av cn)) aC)
   (am (av (aW aZ (bq (aR cn (aR cn (aR cn ad)))) (og PySem.F.plainAttrs_list PySem.F.slot_list_index PySem.F.type_list_index vC (pv 3) (aR c9 ad)) (fun _ _=>rfl)))))))),?_⟩
  refine ⟨g,φ,rfl,C,mono H _ _ _ _ (fun v H' z=>?_) (fun cls d H' z=>?_) q⟩
  ·-- cC
   exact ⟨_,rfl,_,rfl,br z⟩
  ·rcases z with z | z
   ·obtain ⟨rfl,z⟩:=z
    refine ⟨R.xNF,fun a ha=>?_⟩
    refine ⟨_,rfl,?_⟩
    refine ⟨_,rfl,_,rfl,bx ?_⟩
    have ea:(upd H' a (kr a (.ref NF))) a=some (kr a (.ref NF)):=ac
    have ty:∀ {H2:Hp},au (upd H' a (kr a (.ref NF))) H2->TyX K H2 (.ref a) (.ref NF):=fun S=>.exc (S _ _ ea) R.kNF
    refine ⟨_,rfl,.ref a,.ref NF,_,_,_,rfl,rfl,ty (au.refl _),R.a1,_,rfl,.ref a,.ref NO,_,_,_,rfl,rfl,ty (au.refl _),R.a2,_,rfl,.ref a,.ref NS,_,_,_,rfl,rfl,ty (au.refl _),R.a3,by decide,fun p hp=>?_⟩
    have sp1:=ak (o:=.lst [V.bl true,V.bl false,V.bl false]) hp
    refine ⟨_,rfl,.inl ⟨rfl,_,aO.of ac⟩,p,_,_,rfl,rfl,aO.of ac,by decide,rfl,rfl,_,rfl,bx ?_⟩
    refine ⟨_,rfl,.ref a,.ty "ValueError",_,_,_,rfl,rfl,ty sp1,R.a4,_,rfl,bx ?_⟩
    refine ⟨by decide,fun r hr'=>?_⟩
    have hpr:p≠r:=fun e=>by rw [← e,ac] at hr'; cases hr'
    refine ⟨_,rfl,.inl ⟨rfl,_,aO.of (by rw [al hpr]; exact ac)⟩,p,_,_,0,rfl,rfl,aO.of (by rw [al hpr]; exact ac),by decide,rfl,⟨_,rfl,rfl⟩,(fun i z h e=>by
     omega),by decide,?_⟩
    refine ⟨r,_,_,_,rfl,rfl,aO.of ac,rfl,z _ ?_⟩
    exact ((ak ha).trans sp1).trans (ak hr')
   ·obtain ⟨rfl,z⟩:=z
    refine ⟨R.xNO,fun a ha=>?_⟩
    refine ⟨_,rfl,?_⟩
    refine ⟨_,rfl,_,rfl,bx ?_⟩
    have ea:(upd H' a (kr a (.ref NO))) a=some (kr a (.ref NO)):=ac
    have ty:∀ {H2:Hp},au (upd H' a (kr a (.ref NO))) H2->TyX K H2 (.ref a) (.ref NO):=fun S=>.exc (S _ _ ea) R.kNO
    refine ⟨_,rfl,.ref a,.ref NF,_,_,_,rfl,rfl,ty (au.refl _),R.b1,_,rfl,.ref a,.ref NO,_,_,_,rfl,rfl,ty (au.refl _),R.b2,_,rfl,.ref a,.ref NS,_,_,_,rfl,rfl,ty (au.refl _),R.b3,by decide,fun p hp=>?_⟩
    have sp1:=ak (o:=.lst [V.bl false,V.bl true,V.bl false]) hp
    refine ⟨_,rfl,.inl ⟨rfl,_,aO.of ac⟩,p,_,_,rfl,rfl,aO.of ac,by decide,rfl,rfl,_,rfl,bx ?_⟩
    refine ⟨_,rfl,.ref a,.ty "ValueError",_,_,_,rfl,rfl,ty sp1,R.b4,_,rfl,bx ?_⟩
    refine ⟨by decide,fun r hr'=>?_⟩
    have hpr:p≠r:=fun e=>by rw [← e,ac] at hr'; cases hr'
    refine ⟨_,rfl,.inl ⟨rfl,_,aO.of (by rw [al hpr]; exact ac)⟩,p,_,_,1,rfl,rfl,aO.of (by rw [al hpr]; exact ac),by decide,rfl,⟨_,rfl,rfl⟩,(fun i z h e=>by
     have hi:i=0:=by omega
     subst hi
     cases e
     rfl),by decide,?_⟩
    refine ⟨r,_,_,_,rfl,rfl,aO.of ac,rfl,z _ ?_⟩
    exact ((ak ha).trans sp1).trans (ak hr')
end
open Nm Srt
noncomputable abbrev ce:Stmt:=aY 59
noncomputable def i3:Expr:=match (bv ce).getD 2 (.Pass ⟨0,0,0,0⟩) with
 | .Assign _ (.List (.Call _ (e :: _) _ _ :: _) _) _=>e
 | _=>.Name "" ⟨0,0,0,0⟩
noncomputable def iX:Expr:=match (bv ce).getD 3 (.Pass ⟨0,0,0,0⟩) with
 | .Expr (.Call _ (.Call _ (e :: _) _ _ :: _) _ _) _=>e
 | _=>.Name "" ⟨0,0,0,0⟩
noncomputable def yj (e:Expr):Scope:=match e with | .Lambda _ _ sc _=>sc | _=>aj ce
noncomputable def sB (e:Expr):Pos:=match e with | .Lambda _ _ _ p=>p | _=>⟨0,0,0,0⟩
noncomputable def nV (e:Expr):Expr:=match e with | .Lambda _ b _ _=>b | _=>.Name "" ⟨0,0,0,0⟩
noncomputable def nc (e:Expr):Arguments:=match e with | .Lambda ps _ _ _=>ps | _=>cm ce
noncomputable abbrev lqual:Str:="_law_asked"++".<locals>."++"<lambda>"
noncomputable def zp:List Pos:=[sB i3,sB iX]
theorem vc:∀ p∈zp,∀ p'∈zp,((p.line:Int)=p'.line∧(p.col:Int)=p'.col)->p=p':=by decide +kernel
noncomputable abbrev qG (Pt:Addr)(H:Hp):Prop:=i9 zp lqual Pt H
noncomputable abbrev NA:List Str:=["_law_one","_law_prime_here","_law_due","_law_thing","_law_order","_law_reach_here","_law_kept","_law_kinds","_law_good","_law_called","_law_other"]
theorem eT:FnScope NA ["_law_one","_law_prime_here","_law_due","_law_thing","_law_order"] (aj ce):=⟨rfl,rfl,rfl,by decide +kernel,rfl,by decide +kernel,by decide +kernel⟩
noncomputable abbrev XA (P:Program)(w:World)(K:Frag)(mg:Str->Option Value)(base:Heap)(fl:Addr)(cdv:Value)(A:Around)(outer:List Env)(s:Shared)(H0:Hp)(E:XK):Cx:=(gr (aU P w) P w K mg base NA "_law_asked" (aj ce) fl cdv A outer s H0 E).nox
noncomputable def xo (b:Bool):Str:=if b=true then "told" else "filling"
noncomputable def zC (b:Bool):Str:=if b=true then "told" else "order"
theorem qV {C CF NF:Addr}{vs:List V}:oN (fun H Q E=>gO C CF NF vs H Q E):=by
 intro H Q Q' E E' hQ hE h
 obtain ⟨s,dx,fl,dxf,D,p,zs,ts,m,x,o,e,S,ok,px,qE,q⟩:=h
 exact ⟨s,dx,fl,dxf,D,p,zs,ts,m,x,o,e,S,ok,px,fun z H' s'=>hE _ _ _ (qE z H' s'),fun bs z1 z2 z3 z4 H' a s' e'=>hQ _ _ (q bs z1 z2 z3 z4 H' a s' e')⟩
theorem nk {C CF NO:Addr}{vs:List V}:oN (fun H Q E=>d9 C CF NO vs H Q E):=by
 intro H Q Q' E E' hQ hE h
 obtain ⟨s,dx,fl,dxf,D,p,zs,ts,m,x,o,e,S,ok,px,qE,q⟩:=h
 exact ⟨s,dx,fl,dxf,D,p,zs,ts,m,x,o,e,S,ok,px,fun z H' s'=>hE _ _ _ (qE z H' s'),fun ns z1 z2 z3 z4 z5 H' s1 d1 D1 zs1 s' e1 e2 e3=>hQ _ _ (q ns z1 z2 z3 z4 z5 H' s1 d1 D1 zs1 s' e1 e2 e3)⟩
section
variable {P:Program}{w:World}{K:PySem.W.Frag}{mg:Str->Option Value}{base:Heap}
theorem vJ {f c' c1 c2 C CF NF NO fW s dx fl dxf D:Addr}{fdW:FuncData}{o1 o2 oc fo:Obj}{p:Int}{m:Nat}{x:V}{o:Option (List V)}{zs:List V}{ts:List Tm}{pm ctv:Value}{cs:List (Addr × Obj)}{H7:Hp}{Q:VK}{E:XK}(hcs:cs=[(c1,o1),(c2,o2)])
 (hfo:fo=kla_obj "<lambda>" lqual (nc i3) (nV i3) (yj i3) [("_law_thing",c2),("_law_one",c1)] pm c' ctv)
 (r1:kc (.ref s) o1)(r2:kc x o2)(n12:c1≠c2)(hoc:dO lqual oc)(c:SumK K mg C)
 (FW:FnOk P w K mg base (aU P w) 5 fW fdW ["self","filling"] (gO C CF NF))(bW:L2.ax K fdW ["self","filling"] [])(mW:L2.Meth K C "worth" fW)
 (S:SumAt C CF H7 s dx fl dxf D p zs ts)(ok:pX p m ts)(px:PX H7 x o)(hf:H7 f=some (cZ f fo))(hc':H7 c'=some (cZ c' oc))(z:∀ c∈[c1,c2],H7 c=none)
 (i:∀ H',d3 cs H'->au H7 (dU cs H')->Q (.str (xo (ci (ay ts) o))) H'):nJ P w K mg base 10 NF NO [.ref f] (de cs H7) Q E:=by
 subst hcs hfo
 refine ⟨f,_,rfl,lh (φ0:=fun H Q E=>gO C CF NF [.ref s,x] H Q E) (k:=9) (v1:=.ref s) (v2:=x) rfl rfl rfl rfl (by decide +kernel) (by decide +kernel) rfl rfl (by decide +kernel) r1 r2 n12 hoc ?_,oy qV,sI hf hc' z ?_⟩
 ·intro A outer s' H Q E hr q
  have hs:∃ (dx:Addr)(fs:Addr × Addr),H s=some (.ins C dx (n5 fs.1 fs.2)):=by
   obtain ⟨s',dx,fl,dxf,D,p,zs,ts,m,x,o,e,S,_⟩:=q
   cases e
   exact ⟨dx,(fl,D),S.hs⟩
  obtain ⟨dx,fs,hs⟩:=hs
  exact ⟨_,dk (E:=E) (pv 0) c.cl mW FW (hr.mono (by decide)) bW .nil (lR jU) (@ag _ _ _ _ _ (pv 1) ad rfl),_,rfl,s,dx,_,rfl,hs,rfl,_,rfl,q⟩
 ·refine ⟨s,dx,fl,dxf,D,p,zs,ts,m,x,o,rfl,S,ok,px,fun hb H8 s8=>.inl ⟨rfl,fun H9 s9=>?_⟩,fun bs hb _ _ _ H8 a s8 _=>?_⟩
  ·rw [hb] at i
   obtain ⟨i1,i2⟩:=yb z ((ig s8).trans s9)
   exact i H9 i1 i2
  ·rw [hb] at i
   obtain ⟨i1,i2⟩:=yb z (ig s8)
   exact i _ i1 i2
theorem wz {f c' c1 c2 C CF NF NO fW s dx fl dxf D:Addr}{fdW:FuncData}{o1 o2 oc fo:Obj}{p:Int}{m:Nat}{x:V}{o:Option (List V)}{zs:List V}{ts:List Tm}{pm ctv:Value}{cs:List (Addr × Obj)}{H7:Hp}{Q:VK}{E:XK}(hcs:cs=[(c1,o1),(c2,o2)])
 (hfo:fo=kla_obj "<lambda>" lqual (nc iX) (nV iX) (yj iX) [("_law_order",c2),("_law_one",c1)] pm c' ctv)
 (r1:kc (.ref s) o1)(r2:kc x o2)(n12:c1≠c2)(hoc:dO lqual oc)(c:SumK K mg C)
 (FW:FnOk P w K mg base (aU P w) 9 fW fdW ["self","order"] (d9 C CF NO))(bW:L2.ax K fdW ["self","order"] [])(mW:L2.Meth K C "renamed" fW)
 (S:SumAt C CF H7 s dx fl dxf D p zs ts)(ok:pX p m ts)(px:LX H7 x o)(hf:H7 f=some (cZ f fo))(hc':H7 c'=some (cZ c' oc))(z:∀ c∈[c1,c2],H7 c=none)
 (i:∀ H',d3 cs H'->au H7 (dU cs H')->Q (.str (zC (dq (ay ts) o))) H'):nJ P w K mg base 10 NF NO [.ref f] (de cs H7) Q E:=by
 subst hcs hfo
 refine ⟨f,_,rfl,lh (φ0:=fun H Q E=>d9 C CF NO [.ref s,x] H Q E) (k:=9) (v1:=.ref s) (v2:=x) rfl rfl rfl rfl (by decide +kernel) (by decide +kernel) rfl rfl (by decide +kernel) r1 r2 n12 hoc ?_,oy nk,sI hf hc' z ?_⟩
 ·intro A outer s' H Q E hr q
  have hs:∃ (dx:Addr)(fs:Addr × Addr),H s=some (.ins C dx (n5 fs.1 fs.2)):=by
   obtain ⟨s',dx,fl,dxf,D,p,zs,ts,m,x,o,e,S,_⟩:=q
   cases e
   exact ⟨dx,(fl,D),S.hs⟩
  obtain ⟨dx,fs,hs⟩:=hs
  exact ⟨_,dk (E:=E) (pv 0) c.cl mW FW hr bW .nil (lR jU) (@ag _ _ _ _ _ (pv 1) ad rfl),_,rfl,s,dx,_,rfl,hs,rfl,_,rfl,q⟩
 ·refine ⟨s,dx,fl,dxf,D,p,zs,ts,m,x,o,rfl,S,ok,px,fun hb H8 s8=>.inr ⟨rfl,fun H9 s9=>?_⟩,fun bs hb _ _ _ _ H8 s' d1 D1 zs1 s8 _ _ _=>?_⟩
  ·rw [hb] at i
   obtain ⟨i1,i2⟩:=yb z ((ig s8).trans s9)
   exact i H9 i1 i2
  ·rw [hb] at i
   obtain ⟨i1,i2⟩:=yb z (ig s8)
   exact i _ i1 i2
structure AllA (P:Program)(w:World)(K:Frag)(mg:Str->Option Value)(base:Heap)(C CF NF NO cc Pt:Addr):Prop where
 c:SumK K mg C
 cF:FieldK K mg CF
 reach:∃ f fd,FnOk P w K mg base (aU P w) 1 f fd ["_law_terms_here"] spLReach∧L2.ax K fd ["_law_terms_here"] []∧mg "_law_reach"=some (.ref f)∧keepIn K (.ref f)=true
 kind:∃ f fd,FnOk P w K mg base (aU P w) 11 f fd ["_law_call"] (nJ P w K mg base 10 NF NO)∧L2.ax K fd ["_law_call"] []∧mg "_law_kind"=some (.ref f)∧keepIn K (.ref f)=true
 isF:∃ f fd,FnOk P w K mg base (aU P w) 2 f fd ["_law_thing","_law_reach_here"] spLIsF∧L2.ax K fd ["_law_thing","_law_reach_here"] []∧mg "_law_is_filling"=some (.ref f)∧keepIn K (.ref f)=true
 isO:∃ f fd,FnOk P w K mg base (aU P w) 2 f fd ["_law_thing","_law_reach_here"] spLIsO∧L2.ax K fd ["_law_thing","_law_reach_here"] []∧mg "_law_is_order"=some (.ref f)∧keepIn K (.ref f)=true
 lw:∃ f fd,FnOk P w K mg base (aU P w) 4 f fd ["_law_prime_here","_law_terms_here","_law_filling_here"] spLWorth∧L2.ax K fd ["_law_prime_here","_law_terms_here","_law_filling_here"] []∧mg "_law_worth"=some (.ref f)∧keepIn K (.ref f)=true
 lg:∃ f fd,FnOk P w K mg base (aU P w) 4 f fd ["_law_prime_here","_law_terms_here"] spLGath∧L2.ax K fd ["_law_prime_here","_law_terms_here"] []∧mg "_law_gather"=some (.ref f)∧keepIn K (.ref f)=true
 wo:∃ f fd,FnOk P w K mg base (aU P w) 5 f fd ["self","filling"] (gO C CF NF)∧L2.ax K fd ["self","filling"] []∧L2.Meth K C "worth" f
 rn:∃ f fd,FnOk P w K mg base (aU P w) 9 f fd ["self","order"] (d9 C CF NO)∧L2.ax K fd ["self","order"] []∧L2.Meth K C "renamed" f
 sf:∃ f fd,FnOk P w K mg base (aU P w) 1 f fd ["self"] (pq C CF)∧L2.ax K fd ["self"] []∧L2.Meth K C "field" f
 st:∃ f fd,FnOk P w K mg base (aU P w) 1 f fd ["self"] (oY C CF)∧L2.ax K fd ["self"] []∧L2.Meth K C "terms" f
 eq:∃ f fd,FnOk P w K mg base (aU P w) 1 f fd ["self","other"] (AT CF)∧L2.ax K fd ["self","other"] []∧findIn K (.ref CF) "__eq__"=some (some (.ref f))∧isFn K (.ref f)=true
 ne:findIn K (.ref CF) "__ne__"=some (some (.builtin "object.__ne__"))
 sys:p5 K
 repr:mg "repr"=none
 int:mg "int"=none
 tuple:mg "tuple"=none
 sorted:mg "sorted"=none
 hd:CodeHd base cc Pt
 bm:∃ bm ob,mg "__builtins__"=some (.ref bm)∧bm≠builtinsNs∧base.get? bm=some ob∧ob.cls = .type "module"∧ob.dict=some builtinsNs∧ob.data = .plain
end
noncomputable def u9 (t:Tm):D:=.tup [.tup (t.1.map D.int),.tup [.int t.2.1,.int t.2.2]]
theorem yu {K:Frag}{H:Hp}{y:V}{t:Tm}(h:AK H y t):aI K H (u9 t) y:=by
 obtain ⟨a,pr,nu,rfl,ha,hpr,hnu⟩:=h
 unfold u9 aI
 refine ⟨a,_,rfl,bc.of ha,?_⟩
 unfold ba
 refine ⟨_,_,rfl,jR hpr,?_⟩
 unfold ba
 refine ⟨_,_,rfl,vD hnu,?_⟩
 unfold ba
 rfl
theorem pD {K:Frag}{H:Hp}:∀ {ys:List V}{ts:List Tm},a8 H ys ts->ba K H (ts.map u9) ys
 | _,_,.nil=>by unfold ba; rfl
 | _,_,.cons (b:=t) h r=>by
   show ba K H (u9 t :: _) _
   unfold ba
   exact ⟨_,_,rfl,yu h,pD r⟩
theorem rK:∀ ts:List Tm,eE (ts.map u9)≤2
 | []=>by unfold eE; decide
 | t :: ts=>by
   show eE (u9 t :: ts.map u9)≤2
   unfold eE
   have:=rK ts
   have h:jl (u9 t)=2:=by
    unfold u9 jl eE eE eE
    rw [rq,zQ]
    rfl
   omega
theorem gW {K:Frag}{H:Hp}{a:Addr}{ys:List V}{ts:List Tm}(e:H a=some (.lst ys))(h:a8 H ys ts):aI K H (.lst (ts.map u9)) (.ref a):=by
 unfold aI
 exact ⟨a,ys,rfl,aO.of e,pD h⟩
theorem rh (ts:List Tm):jl (.lst (ts.map u9))≤32:=by
 unfold jl
 have:=rK ts
 omega
theorem rj {K:Frag}{H:Hp}{r L:Addr}{d1 d2:PyData}{x y:V}(e:H L=some (.lst [x,y]))(h1:Dt r H d1 x)(h2:Dt r H d2 y):jc K H (.list [d1,d2]) (.ref L):=by
 unfold jc
 refine ⟨L,_,rfl,aO.of e,?_⟩
 unfold gR
 refine ⟨_,_,rfl,Dt.rd _ _ h1,?_⟩
 unfold gR
 refine ⟨_,_,rfl,Dt.rd _ _ h2,?_⟩
 unfold gR
 rfl
theorem yC {d1 d2:PyData}(h1:Sm d1)(h2:Sm d2):PyData.showable (.list [d1,d2])=true∧PyData.depth (.list [d1,d2])≤60∧wt (.list [d1,d2])≤16777216:=by
 obtain ⟨a1,a2,a3,_⟩:=h1
 obtain ⟨b1,b2,b3,_⟩:=h2
 refine ⟨?_,?_,?_⟩
 ·unfold PyData.showable
  rw [PyData.showableAll,PyData.showableAll,PyData.showableAll,a1,b1]; rfl
 ·unfold PyData.depth
  rw [PyData.depthAll,PyData.depthAll,PyData.depthAll]; omega
 ·unfold wt
  rw [gf,gf,gf]; omega
theorem xV {K:Frag}{C:Addr}:notFirst K C (.ref C)=true:=by unfold notFirst; simp
theorem ja.imp' {X:Cx}{st:List Stmt}{t u:TS}(h:ja X st t)(i:∀ D σ H,u D σ H->t D σ H):ja X st u:=fun pins s σ H D I q=>h pins s σ H D I (i D σ H q)
noncomputable def u6 (C CF:Addr):TS:=fun E σ H=>∃ (s dx fl dxf Dd l L8:Addr)(p:Int)(zs ys:List V)(ts:List Tm)(m:Nat)(x y:V)(o2:Option (List V))(b1:Bool)(o5 o6 o7 o9 o10:Option V),σ=[some (.ref s),some (.int p),some (.ref l),some x,some y,o5,o6,o7,some (.ref L8),o9,o10] ∧
 SumAt C CF H s dx fl dxf Dd p zs ts∧pX p m ts∧H l=some (.lst ys)∧a8 H ys ts∧LX H y o2∧H L8=some (.lst [.bl b1,.bl (dq (ay ts) o2)])∧∀ H',au H H'->E.rt (.bl true) H'
section
variable {P:Program}{w:World}{K:PySem.W.Frag}{mg:Str->Option Value}{base:Heap}
variable {fa:Addr}{A:Around}{outer:List Env}{s0:Shared}{H0:Hp}{E0:XK}{C CF NF NO cc Pt:Addr}
set_option maxHeartbeats 1000000 in
theorem xm (hr12:Room 11 (XA P w K mg base fa (.ref cc) A outer s0 H0 E0).A)(T:AllA P w K mg base C CF NF NO cc Pt):
 ja (XA P w K mg base fa (.ref cc) A outer s0 H0 E0) ((bv ce).drop 7) (u6 C CF):=by
 obtain ⟨fRn,fdRn,FRn,bRn,mRn⟩:=T.rn
 obtain ⟨fSf,fdSf,FSf,bSf,mSf⟩:=T.sf
 obtain ⟨fSt,fdSt,FSt,bSt,mSt⟩:=T.st
 obtain ⟨fLg,fdLg,FLg,bLg,mLg,kLg⟩:=T.lg
 obtain ⟨fE,fdE,FE,bE,nE,iE⟩:=T.eq
 have hr9:Room 9 (XA P w K mg base fa (.ref cc) A outer s0 H0 E0).A:=hr12.mono (by decide)
 have hr4:Room 4 (XA P w K mg base fa (.ref cc) A outer s0 H0 E0).A:=hr12.mono (by decide)
 have hr2:Room 2 (XA P w K mg base fa (.ref cc) A outer s0 H0 E0).A:=hr12.mono (by decide)
 have hr1:Room 1 (XA P w K mg base fa (.ref cc) A outer s0 H0 E0).A:=hr12.mono (by decide)
 have m_tuple:=T.tuple
 have m_sorted:=T.sorted
 refine ja.imp' (ai (a7 (bw (@aW _ _ _ _ _ _ _ aZ (pv 8) ah (fun _ _=>rfl))) (ai (jq (i:=9) (g:=lz K 2 (cP (bD 0) (cP (bD 1) gNil))) (te:=yx (cf (AG (qA K) (cf (AG (qB K) (cf (sJ (ym K (c7 0)) (bD 0) tYes (pJ (yc K) (c7 1) (c7 0)) 1 [2]) tNil)) tNil)) (cf (c7 1) tNil))) (N:=["_law_product_here","_law_number_here","_law_order"]) (nl:=2) (js:=[4]) (osc:=aj ce) ⟨rfl,rfl,by decide +kernel,by decide +kernel,by decide +kernel,rfl,(.cons ⟨rfl,by decide +kernel⟩ .nil),by decide +kernel⟩ rfl eT.nd rfl (Or.inl rfl)
  (cK (pv 2))
  (fun C fp s H=>(cV (X:=d6 _ ["_law_product_here","_law_number_here","_law_order"] _ C fp s H) rfl (aL (aE (X:=d6 _ ["_law_product_here","_law_number_here","_law_order"] _ C fp s H) (i:=0) (by show (["_law_product_here","_law_number_here","_law_order"]:List Str).Nodup; decide +kernel) rfl (Or.inl rfl) (Or.inr rfl)) (aL (aE (X:=d6 _ ["_law_product_here","_law_number_here","_law_order"] _ C fp s H) (i:=1) (by show (["_law_product_here","_law_number_here","_law_order"]:List Str).Nodup; decide +kernel) rfl (Or.inl rfl) (Or.inr rfl)) cw))))
  (fun C fp s H=>cL)
  (fun C fp s H=>(@bH _ _ _ _ _ (@ag _ _ _ _ _ (b8 (j7 rfl) (by rfl) m_tuple (by rfl) (@ag _ _ _ _ _ (ar (sv rfl) (by rfl) m_sorted (by rfl) (@ag _ _ _ _ _ (cg (N:=["_law_place","_law_order"]) (nl:=1) (js:=[2]) (osc:=CS _ (aj ce)) ⟨rfl,rfl,by decide +kernel,by decide +kernel,by decide +kernel,rfl,(.cons ⟨rfl,by decide +kernel⟩ .nil),by decide +kernel⟩ rfl
  (y7 rfl (pv 0))
  (fun C fp s H=>aE (i:=0) (by show (["_law_place","_law_order"]:List Str).Nodup; decide +kernel) rfl (Or.inl rfl) (Or.inr rfl))
  (fun C fp s H=>cL)
  (fun C fp s H=>(@aW _ _ _ _ _ _ _ (zc rfl) (pv 1) (pv 0) (fun _ _=>rfl)))) ad rfl)) ad rfl)) (@ag _ _ _ _ _ (pv 1) ad rfl) rfl))) (by rfl))
  (ai (@aK _ _ 10 _ _ _ _ eT.nd rfl (Or.inl rfl) (dk (pv 0) T.c.cl mRn FRn hr9 bRn .nil ae (@ag _ _ _ _ _ (pv 4) ad rfl)) rfl (Or.inl rfl))
  (ai (a7 (PW.pt (dQ (@aF _ _ _ _ _ _ _ _ (wy nE iE T.ne T.cF.ob FE hr2 bE ae) (eC (pv 10) T.c.cl mSf FSf hr1 bSf .nil ae) (eC (pv 0) T.c.cl mSf FSf hr1 bSf .nil ae) (aG _)) (cN (@aF _ _ _ _ _ _ _ _ (iu hr12) (eC (pv 10) T.c.cl mSt FSt hr1 bSt .nil ae) (aq FLg hr4 (by rfl) mLg kLg bLg .nil ae (@ag _ _ _ _ _ (pv 1) (@ag _ _ _ _ _ (pv 9) ad rfl) rfl)) (aG _))))) (am (av c9)) aC)
  (am (av (@cX _ _ _ _ _ _ _ _ (zM hr12) (eC (pv 0) T.c.cl mSt FSt hr1 bSt .nil ae) (pv 2) (aG _))))))) aC)
  (am (av c9))) fun D σ H h=>?_
 obtain ⟨s,dx,fl,dxf,Dd,l,L8,p,zs,ys,ts,m,x,y,o2,b1,o5,o6,o7,o9,o10,rfl,S,ok,hl,hts,lx,h8,fin⟩:=h
 refine ⟨_,rfl,L8,_,1,_,rfl,rfl,aO.of h8,rfl,_,rfl,?_⟩
 cases hb:dq (ay ts) o2 with
 | false=>exact bx (fin _ (au.refl _))
 | true =>
   refine br ?_
   obtain ⟨h64,hG,hm,hm2⟩:=id ok
   cases lx with
   | no=>cases hb
   | @lst a xs ha hxl hth =>
     have hb':=hb
     unfold dq at hb'
     rw [Bool.and_eq_true] at hb'
     have eb':(xs.all aS&&decide xs.Nodup)=true:=hb'.1
     rw [Bool.and_eq_true] at eb'
     obtain ⟨ns,rfl⟩:=jr eb'.1
     have hrn:ay ts≤(ns.length:Int):=by
      have:=of_decide_eq_true hb'.2
      have this:ay ts≤((ns.map V.int).length:Int):=this
      rw [List.length_map] at this
      exact this
     have hlen:=hts.length
     refine ⟨_,rfl,l,rfl,⟨ys,aO.of hl⟩,?_⟩
     refine iM (xs:=ys) (fun i us H'=>au H H'∧a8 H' us ((ts.take i).map (BW ns))) ⟨au.refl _,.nil⟩ (fun i us H' hi h=>?_) (fun i v us H' hi hy h=>?_) (fun us H' h=>?_)
     ·refine ⟨?_,aO.of (h.1 _ _ hl)⟩
      rw [h.2.length,List.length_map]
      exact Nat.lt_of_le_of_lt (by simp; omega) (Nat.lt_trans h64 (by decide))
     ·obtain ⟨sH,hys⟩:=h
      obtain ⟨t,et,tr⟩:=bJ hts hy
      obtain ⟨at_,pr,nu,rfl,hat,hpr,hnu⟩:=tr.keep (aA.of sH)
      have tm:=List.mem_of_getElem? et
      obtain ⟨gt,pw,k0,kl⟩:=hG t tm
      have esn:ts.take (i + 1)=ts.take i++[t]:=by rw [List.take_add_one,et]; rfl
      have haH:=sH _ _ ha
      refine ⟨at_,.ref pr,.ref nu,rfl,bc.of hat,fun N k=>ud ?_⟩
      refine ⟨_,rfl,pr,rfl,⟨_,bc.of hpr⟩,?_⟩
      refine hJ (xs:=t.1.map V.int) (fun j us H3=>H'=H3∧us=((t.1.take j).map fun k=>ns.getD k.toNat 0).map V.int) ⟨rfl,rfl⟩ (fun j us H3 hj h=>?_) (fun j x us H3 N hj hx h k=>?_) (fun us H3 h=>?_)
      ·obtain ⟨rfl,rfl⟩:=h
       exact ⟨Nat.lt_of_le_of_lt (by simp; omega) (Nat.lt_trans kl (by decide)),bc.of hpr⟩
      ·obtain ⟨rfl,rfl⟩:=h
       have hj':j < t.1.length:=by simpa using hj
       have ex:t.1[j]?=some t.1[j]:=by simp [hj']
       have ev:x = .int t.1[j]:=by
        rw [List.getElem?_map,ex] at hx
        exact (Option.some.inj hx).symm
       subst ev
       have km:=List.getElem_mem hj'
       have k1:=gU tm pw km
       have ek:t.1.take (j + 1)=t.1.take j++[t.1[j]]:=by rw [List.take_add_one,ex]; rfl
       refine ud ⟨_,rfl,_,rfl,a,_,_,_,rfl,rfl,aO.of haH,n6 (k0 _ km) (by omega),k _ _ ⟨rfl,?_⟩⟩
       rw [ek,List.map_append,List.map_append]
       rfl
      ·obtain ⟨rfl,rfl⟩:=h
       intro L hL
       rw [List.length_map,List.take_length]
       have sL:au H' (upd H' L (.lst ((t.1.map fun k=>ns.getD k.toNat 0).map V.int))):=ak hL
       refine ⟨L,_,rfl,aO.of ac,by rw [List.length_map]; exact kl,fun D2 ms hD2 perm pwm=>?_⟩
       have em:=rQ perm pwm
       subst em
       refine ⟨D2,_,rfl,.inl ⟨aO.of ac,fun a2 ha2=>?_⟩⟩
       refine ⟨_,rfl,(by show 2≤sizeLine; decide),fun tu htu=>k _ _ ?_⟩
       have s5:=((sL.trans (ak hD2)).trans (ak ha2)).trans (ak (o:=.tup [.ref a2,.ref nu]) htu)
       refine ⟨sH.trans s5,?_⟩
       rw [esn,List.map_append]
       refine Paired.snoc (a8.keep hys (aA.of s5)) ⟨tu,a2,nu,rfl,ac,?_,s5 _ _ hnu⟩
       rw [al (ap ac htu)]
       exact ac
     ·obtain ⟨sH,hys⟩:=h
      rw [hlen,List.take_length] at hys
      intro L hL
      have sL:au H' (upd H' L (.lst us)):=ak hL
      have sA:=sH.trans sL
      have e9:upd H' L (.lst us) L=some (.lst us):=ac
      have hys2:=a8.keep hys (aA.of sL)
      generalize upd H' L (.lst us)=H2 at sL sA e9 hys2 ⊢
      have S2:=S.same sA
      refine ⟨_,rfl,s,dx,_,rfl,S2.hs,rfl,_,rfl,s,dx,fl,dxf,Dd,p,zs,ts,m,_,_,rfl,S2,ok,.lst (sA _ _ ha) hxl (fun v hv=>let ⟨T,th⟩:=hth v hv; ⟨T,th.same sA⟩),(fun z=>by rw [hb] at z; cases z),fun ns' _ e _ _ _ H3 s' dx' D' zs' s3 hs' hD' hz'=>?_⟩
      have en:ns'=ns:=by
       have z:=Option.some.inj e
       exact ((List.map_inj_right fun x y h=>by injection h).mp z).symm
      subst en
      have S3:=S2.same s3
      refine ⟨_,rfl,s',dx',_,rfl,hs',rfl,s',dx',fl,D',rfl,hs',_,rfl,s,dx,_,rfl,S3.hs,rfl,s,dx,fl,Dd,rfl,S3.hs,fl,dxf,_,.ref CF,rfl,S3.hf,T.cF.ty S3.hf,xV,fl,dxf,p,.ref fl,rfl,S3.hf,.inl ⟨fl,dxf,p,rfl,S3.hf,_,rfl,_,rfl,?_⟩⟩
      refine b7 (fun h=>absurd h (by simp)) (fun _=>?_)
      refine ⟨_,rfl,s',dx',_,rfl,hs',rfl,s',dx',fl,D',zs',rfl,hs',hD',fun l1 hl1=>?_⟩
      have s4:=ak (o:=.lst zs') hl1
      refine ⟨_,rfl,_,rfl,L,p,us,_,m,rfl,S.hp,s4 _ _ (s3 _ _ e9),a8.keep hys2 (aA.of (s3.trans s4)),by rw [List.length_map]; exact h64,(fun t ht=>by
       obtain ⟨t0,h0,rfl⟩:=List.mem_map.mp ht
       exact (hG t0 h0).1),by rw [List.length_map]; exact hm,hm2,fun H5 D5 zs5 s5 hD5 hz5=>?_⟩
      refine ⟨_,_,gW (s5 _ _ ac) (a8.keep hz' (aA.of (s4.trans s5))),gW hD5 hz5,rh _,_,rfl,?_⟩
      rw [dt]
      refine bx ?_
      have s25:=s3.trans (s4.trans s5)
      have S5:=S2.same s25
      refine ⟨_,rfl,s,dx,_,rfl,S5.hs,rfl,s,dx,fl,Dd,zs,rfl,S5.hs,S5.hD,fun l2 hl2=>?_⟩
      have s6:=ak (o:=.lst zs) hl2
      have s06:=sA.trans (s25.trans s6)
      refine ⟨_,rfl,_,_,gW ac (a8.keep S5.hz (aA.of s6)),gW (s06 _ _ hl) (a8.keep hts (aA.of s06)),rh _,?_⟩
      rw [dt]
      exact fin _ s06
end
noncomputable def nC (C CF Pt:Addr):Sp:=fun vs H Q _=>∃ (s dx fl dxf D l r:Addr)(p:Int)(zs ys:List V)(ts:List Tm)(m:Nat)(x y:V)(d1 d2:PyData),vs=[.ref s,.int p,.ref l,x,y]∧SumAt C CF H s dx fl dxf D p zs ts∧pX p m ts∧H l=some (.lst ys)∧a8 H ys ts ∧
 Dt r H d1 x∧Sm d1∧Dt r H d2 y∧Sm d2∧qG Pt H∧∀ H',Kp H H'->qG Pt H'->Q (.bl true) H'
theorem yW (k:Bool)(a b:Str):mj [V.str a,V.str b] (if k=true then 1 else 0)=some (.str (if k=true then b else a)):=by cases k <;> rfl
theorem Ac {H:Hp}{x:V}{xs:List V}(h:PX H x (some xs)):∃ a,x = .ref a∧H a=some (.tup xs)∧xs.length < 4000:=by
 cases h with
 | tup e l t=>exact ⟨_,rfl,e,l⟩
theorem mx {K:Frag}{H:Hp}{a:Addr}{u v:Str}(e:H a=some (.lst [.str u,.str v])):aI K H (.lst [.str u,.str v]) (.ref a):=by
 unfold aI
 refine ⟨a,_,rfl,aO.of e,?_⟩
 unfold ba
 refine ⟨_,_,rfl,by unfold aI; rfl,?_⟩
 unfold ba
 refine ⟨_,_,rfl,by unfold aI; rfl,?_⟩
 unfold ba
 rfl
theorem u7 (u v:Str):jl (.lst [.str u,.str v])≤32:=by simp [jl,eE]
theorem LX.same {H H':Hp}{x:V}{o:Option (List V)}(h:LX H x o)(s:au H H'):LX H' x o:=by
 cases h with
 | no th n=>exact .no (th.same s) n
 | lst e l t=>exact .lst (s _ _ e) l fun y hy=>let ⟨T,th⟩:=t y hy; ⟨T,th.same s⟩
theorem Th.kp {H H':Hp}{x:V}{T:String}(h:Th H x T)(s:Kp H H'):Th H' x T:=by
 cases h with
 | non=>exact .non
 | bl b=>exact .bl b
 | int i=>exact .int i
 | str x=>exact .str x
 | lst e=>exact .lst (s _ _ e fun _ z=>by cases z)
 | tup e=>exact .tup (s _ _ e fun _ z=>by cases z)
 | dK e=>exact .dK (s _ _ e fun _ z=>by cases z)
theorem PX.kp {H H':Hp}{x:V}{o:Option (List V)}(h:PX H x o)(s:Kp H H'):PX H' x o:=by
 cases h with
 | no th n=>exact .no (th.kp s) n
 | tup e l t=>exact .tup (s _ _ e fun _ z=>by cases z) l fun y hy=>let ⟨T,th⟩:=t y hy; ⟨T,th.kp s⟩
theorem LX.kp {H H':Hp}{x:V}{o:Option (List V)}(h:LX H x o)(s:Kp H H'):LX H' x o:=by
 cases h with
 | no th n=>exact .no (th.kp s) n
 | lst e l t=>exact .lst (s _ _ e fun _ z=>by cases z) l fun y hy=>let ⟨T,th⟩:=t y hy; ⟨T,th.kp s⟩
section
variable {P:Program}{w:World}{K:PySem.W.Frag}{mg:Str->Option Value}{base:Heap}
variable {fa:Addr}{A:Around}{outer:List Env}{s0:Shared}{H0:Hp}{E0:XK}{C CF NF NO cc Pt:Addr}
theorem sQ:(XA P w K mg base fa (.ref cc) A outer s0 H0 E0).env.qual++"<lambda>"=lqual:=rfl
set_option maxHeartbeats 1000000 in
theorem p6 {Q:VK}{vs:List V}(hr12:Room 11 (XA P w K mg base fa (.ref cc) A outer s0 H0 E0).A)(T:AllA P w K mg base C CF NF NO cc Pt)(h:nC C CF Pt vs H0 Q E0):
 ∃ t,ja (XA P w K mg base fa (.ref cc) A outer s0 H0 E0) (bv ce) t∧t { nx:=fun _ H'=>Q .non H',rt:=Q } (fH NA vs) H0:=by
 obtain ⟨fR,fdR,FR,bR,mR,kR⟩:=T.reach
 obtain ⟨fKd,fdKd,FKd,bKd,mKd,kKd⟩:=T.kind
 obtain ⟨fIf,fdIf,FIf,bIf,mIf,kIf⟩:=T.isF
 obtain ⟨fIo,fdIo,FIo,bIo,mIo,kIo⟩:=T.isO
 obtain ⟨fLw,fdLw,FLw,bLw,mLw,kLw⟩:=T.lw
 obtain ⟨fWo,fdWo,FWo,bWo,mWo⟩:=T.wo
 obtain ⟨fRn,fdRn,FRn,bRn,mRn⟩:=T.rn
 have m_repr:=T.repr
 have m_int:=T.int
 have hr11:Room 11 (XA P w K mg base fa (.ref cc) A outer s0 H0 E0).A:=hr12
 have hr5:Room 5 (XA P w K mg base fa (.ref cc) A outer s0 H0 E0).A:=hr12.mono (by decide)
 have hr4:Room 4 (XA P w K mg base fa (.ref cc) A outer s0 H0 E0).A:=hr12.mono (by decide)
 have hr2:Room 2 (XA P w K mg base fa (.ref cc) A outer s0 H0 E0).A:=hr12.mono (by decide)
 have hr1:Room 1 (XA P w K mg base fa (.ref cc) A outer s0 H0 E0).A:=hr12.mono (by decide)
 have MF:MkFn (XA P w K mg base fa (.ref cc) A outer s0 H0 E0) cc Pt:=⟨rfl,T.hd,T.bm⟩
 obtain ⟨s,dx,fl,dxf,Dd,l,r,p,zs,ys,ts,m,x,y,d1,d2,rfl,S,ok,hl,hts,hx,sx,hy,sy,tb,fin⟩:=h
 refine ⟨_,(ai (@aK _ _ 5 _ _ _ _ eT.nd rfl (Or.inl rfl) (aq FR hr1 (by rfl) mR kR bR .nil ae (@ag _ _ _ _ _ (pv 2) ad rfl)) rfl (Or.inl rfl))
  (ai (@aK _ _ 6 _ _ _ _ eT.nd rfl (Or.inl rfl) (ar (ki hr12 T.sys) (by rfl) m_repr (by rfl) (@ag _ _ _ _ _ (@bq _ _ _ _ (@ag _ _ _ _ _ (pv 3) (@ag _ _ _ _ _ (pv 4) ad rfl) rfl)) ad rfl)) rfl (Or.inl rfl))
  (ai (@aK _ _ 7 _ _ _ _ eT.nd rfl (Or.inl rfl) (@bq _ _ _ _ (@ag _ _ _ _ _ (pH (ys:=["_law_one","_law_thing"]) (js:=[0,3]) FKd hr11 (by rfl) mKd kKd bKd (fun H s e s' z=>by obtain ⟨a,cls,a0,B,H',_,_,_,_,hE⟩:=z; exact hE.elim) rfl (fun y hy=>by
   simp at hy
   rcases hy with rfl | rfl <;> rfl) (fun y hy=>rfl) (@ag _ _ _ _ _ (mq (osc:=aj ce) MF rfl (by decide +kernel) rfl) ad rfl)) ad rfl)) rfl (Or.inl rfl))
  (ai (ny (og PySem.F.plainAttrs_list PySem.F.slot_list_append PySem.F.type_list_append lO (pv 7) (@ag _ _ _ _ _ (pH (ys:=["_law_one","_law_order"]) (js:=[0,4]) FKd hr11 (by rfl) mKd kKd bKd (fun H s e s' z=>by obtain ⟨a,cls,a0,B,H',_,_,_,_,hE⟩:=z; exact hE.elim) rfl (fun y hy=>by
   simp at hy
   rcases hy with rfl | rfl <;> rfl) (fun y hy=>rfl) (@ag _ _ _ _ _ (mq (osc:=aj ce) MF rfl (by decide +kernel) rfl) ad rfl)) ad rfl)))
  (ai (@aK _ _ 8 _ _ _ _ eT.nd rfl (Or.inl rfl) (@bq _ _ _ _ (@ag _ _ _ _ _ (aq FIf hr2 (by rfl) mIf kIf bIf .nil ae (@ag _ _ _ _ _ (pv 3) (@ag _ _ _ _ _ (pv 5) ad rfl) rfl)) (@ag _ _ _ _ _ (aq FIo hr2 (by rfl) mIo kIo bIo .nil ae (@ag _ _ _ _ _ (pv 4) (@ag _ _ _ _ _ (pv 5) ad rfl) rfl)) ad rfl) rfl)) rfl (Or.inl rfl))
  (ai (a7 (PW.pt (dQ (@aF _ _ _ _ _ _ _ _ (iu hr12) (pv 7) (@bq _ _ _ _ (@ag _ _ _ _ _ (@aW _ _ _ _ _ _ _ aZ (@bq _ _ _ _ (@ag _ _ _ _ _ cn (@ag _ _ _ _ _ cn ad rfl) rfl)) (b8 ip (by rfl) m_int (by rfl) (@ag _ _ _ _ _ (@aW _ _ _ _ _ _ _ aZ (pv 8) ah (fun _ _=>rfl)) ad rfl)) (fun _ _=>rfl)) (@ag _ _ _ _ _ (@aW _ _ _ _ _ _ _ aZ (@bq _ _ _ _ (@ag _ _ _ _ _ cn (@ag _ _ _ _ _ cn ad rfl) rfl)) (b8 ip (by rfl) m_int (by rfl) (@ag _ _ _ _ _ (@aW _ _ _ _ _ _ _ aZ (pv 8) ah (fun _ _=>rfl)) ad rfl)) (fun _ _=>rfl)) ad rfl) rfl)) (aG _)) (cN (@aF _ _ _ _ _ _ _ _ iU (ar (ki hr12 T.sys) (by rfl) m_repr (by rfl) (@ag _ _ _ _ _ (@bq _ _ _ _ (@ag _ _ _ _ _ (pv 3) (@ag _ _ _ _ _ (pv 4) ad rfl) rfl)) ad rfl)) (pv 6) (aG _))))) (am (av c9)) aC)
  (ai (a7 (PW.pt (vk (bw (@aW _ _ _ _ _ _ _ aZ (pv 8) ah (fun _ _=>rfl))) (r6 (@aF _ _ _ _ _ _ _ _ (iu hr12) (dk (pv 0) T.c.cl mWo FWo hr5 bWo .nil ae (@ag _ _ _ _ _ (pv 3) ad rfl)) (aq FLw hr4 (by rfl) mLw kLw bLw .nil ae (@ag _ _ _ _ _ (pv 1) (@ag _ _ _ _ _ (pv 2) (@ag _ _ _ _ _ (pv 3) ad rfl) rfl) rfl)) (aG _))))) (am (av c9)) aC)
  (xm hr12 T)))))))),?_⟩
 obtain ⟨h64,hG,hm,hm2⟩:=id ok
 have cne1:s0.heap.objs.size + 1≠s0.heap.objs.size + 1 + 1:=by omega
 have cne2:s0.heap.objs.size + 1≠s0.heap.objs.size + 1 + 1 + 1:=by omega
 obtain ⟨o1,px⟩:=hx.px (Nat.lt_of_le_of_lt sx.2.2.2 (by decide))
 obtain ⟨o2,lx⟩:=hy.lx (Nat.lt_of_le_of_lt sy.2.2.2 (by decide))
 obtain ⟨pk1,pk2,pk3⟩:=yC sx sy
 refine ⟨_,rfl,l,ys,ts,rfl,hl,hts,h64,fun t ht=>(hG t ht).2,fun H1 s1=>?_⟩
 have hx1:=Dt.keep (aD.of (r:=r) s1) _ _ hx
 have hy1:=Dt.keep (aD.of (r:=r) s1) _ _ hy
 refine ⟨_,rfl,_,rfl,(by show 2≤sizeLine; decide),fun L1 hL1=>?_⟩
 have s2:=ak (o:=.lst [x,y]) hL1
 have e2:upd H1 L1 (.lst [x,y]) L1=some (.lst [x,y]):=ac
 generalize upd H1 L1 _=H2 at s2 e2 ⊢
 have hx2:=Dt.keep (aD.of (r:=r) s2) _ _ hx1
 have hy2:=Dt.keep (aD.of (r:=r) s2) _ _ hy1
 refine ⟨L1,_,rfl,rj e2 hx2 hy2,pk1,pk2,pk3,?_⟩
 have s02:=s1.trans s2
 have tb2:=tb.same s02
 have S2:=S.same s02
 have px2:=px.same s02
 have lx2:=lx.same s02
 simp only [bD,AW,yz,zP,qS,cf]
 refine uY (pos:=sB i3) List.mem_cons_self vc sQ tb2 fun H7 f c' oc ctv hf hc' hoc S7 tb7=>?_
 obtain ⟨ps1,hP1,_⟩:=id tb2
 have k7:Kp H2 H7:=Kp.bt hP1 S7
 refine ⟨[.ref s,x],rfl,fun os ro free=>?_⟩
 obtain ⟨q1,q2,eo,r1,r2⟩:=lK ro
 refine vJ (fo:=dZ (XA P w K mg base fa (.ref cc) A outer s0 H0 E0) (nc i3) (nV i3) (yj i3) c' ctv) (pm:=(mg "__name__").getD .none) (ctv:=ctv) (o1:=q1) (o2:=q2) (c1:=s0.heap.objs.size + 1) (c2:=s0.heap.objs.size + 1 + 1) (c':=c') (by rw [eo]; rfl) rfl r1 r2 cne1 hoc T.c FWo bWo mWo (S2.kp k7) ok (px2.kp k7) hf hc' free
  (fun H8 hci S8=>⟨hci,?_⟩)
 generalize dU ((List.map (fG (XA P w K mg base fa (.ref cc) A outer s0 H0 E0)) ["_law_one","_law_thing"]).zip os) H8=H9 at S8 ⊢
 clear hci ro free eo r1 r2 hf hc' hoc
 refine ⟨(by show 1≤sizeLine; decide),fun L7 hL7=>?_⟩
 have s10:=ak (o:=.lst [.str (xo (ci (ay ts) o1))]) hL7
 have e10:upd H9 L7 (.lst [.str (xo (ci (ay ts) o1))]) L7=some (.lst [.str (xo (ci (ay ts) o1))]):=ac
 generalize upd H9 L7 _=H10 at s10 e10 ⊢
 have k10:Kp H0 H10:=(Kp.of s02).trans (k7.trans (Kp.of (S8.trans s10)))
 have tb10:=tb7.same (S8.trans s10)
 refine ⟨_,rfl,.inl ⟨rfl,_,aO.of e10⟩,?_⟩
 simp only [qS,cf]
 refine uY (pos:=sB iX) (List.mem_cons_of_mem _ List.mem_cons_self) vc sQ tb10 fun H17 f c' oc ctv hf hc' hoc S17 tb17=>?_
 obtain ⟨ps2,hP2,_⟩:=id tb10
 have k17:Kp H10 H17:=Kp.bt hP2 S17
 refine ⟨[.ref s,y],rfl,fun os ro free=>?_⟩
 obtain ⟨q1,q2,eo,r1,r2⟩:=lK ro
 refine wz (fo:=dZ (XA P w K mg base fa (.ref cc) A outer s0 H0 E0) (nc iX) (nV iX) (yj iX) c' ctv) (pm:=(mg "__name__").getD .none) (ctv:=ctv) (o1:=q1) (o2:=q2) (c1:=s0.heap.objs.size + 1) (c2:=s0.heap.objs.size + 1 + 1 + 1) (c':=c') (by rw [eo]; rfl) rfl r1 r2 cne2 hoc T.c FRn bRn mRn (S.kp (k10.trans k17)) ok (lx.kp (k10.trans k17)) hf hc' free
  (fun H18 hci S18=>⟨hci,?_⟩)
 generalize dU ((List.map (fG (XA P w K mg base fa (.ref cc) A outer s0 H0 E0)) ["_law_one","_law_order"]).zip os) H18=H19 at S18 ⊢
 clear hci ro free eo r1 r2 hf hc' hoc
 have e19:=S18 _ _ (k17.lst e10)
 have tb19:=tb17.same S18
 have k19:=k10.trans (k17.trans (Kp.of S18))
 refine ⟨L7,_,_,rfl,rfl,e19,(by show 1 < sizeLine; decide),?_⟩
 have k09:Kp H0 H9:=(Kp.of s02).trans (k7.trans (Kp.of S8))
 have k919:Kp H9 H19:=(Kp.of s10).trans (k17.trans (Kp.of S18))
 have kX:Kp H0 (upd H19 L7 (.lst ([.str (xo (ci (ay ts) o1))]++[.str (zC (dq (ay ts) o2))]))):=fun b o e k=>by
  have e9:=k09 b o e k
  rw [al (ap e9 hL7)]
  exact k919 b o e9 k
 have tbX:qG Pt (upd H19 L7 (.lst ([.str (xo (ci (ay ts) o1))]++[.str (zC (dq (ay ts) o2))]))):=tb19.but e19 fun b o e n=>by rw [al n]; exact e
 have eX:upd H19 L7 (.lst ([.str (xo (ci (ay ts) o1))]++[.str (zC (dq (ay ts) o2))])) L7=some (.lst [.str (xo (ci (ay ts) o1)),.str (zC (dq (ay ts) o2))]):=ac
 generalize upd H19 L7 _=H20 at kX tbX eX ⊢
 clear e19 tb19 k19 k919 k09 tb17 k17 S17 hP2 tb10 k10 e10 s10 S8 tb7 k7 S7 hP1
 refine ⟨_,rfl,_,rfl,x,_,o1,rfl,px.kp kX,fun H21 s21=>⟨_,rfl,_,rfl,y,_,o2,rfl,(lx.kp kX).same s21,fun H22 s22=>⟨(by show 2≤sizeLine; decide),fun L8 hL8=>?_⟩⟩⟩
 have s23:=ak (o:=.lst [.bl (ci (ay ts) o1),.bl (dq (ay ts) o2)]) hL8
 have e23:upd H22 L8 (.lst [.bl (ci (ay ts) o1),.bl (dq (ay ts) o2)]) L8=some (.lst [.bl (ci (ay ts) o1),.bl (dq (ay ts) o2)]):=ac
 generalize upd H22 L8 _=H23 at s23 e23 ⊢
 have s203:=s21.trans (s22.trans s23)
 have k23:Kp H0 H23:=kX.trans (Kp.of s203)
 have tb23:=tbX.same s203
 have e7:=s203 _ _ eX
 have rest:∀ (E:Ends)(H':Hp),E.rt=Q->au H23 H'->u6 C CF E [some (.ref s),some (.int p),some (.ref l),some x,some y,some (.int (ay ts)),some (.str (PyData.list [d1,d2]).shown),some (.ref L7),some (.ref L8),none,none] H':=fun E H' hE s'=>by
  have kk:=k23.trans (Kp.of s')
  exact ⟨s,dx,fl,dxf,Dd,l,L8,p,zs,ys,ts,m,x,y,o2,_,_,_,_,_,_,rfl,S.kp kk,ok,kk.lst hl,a8.keep hts kk.tup,lx.kp kk,s' _ _ e23,fun H'' s''=>by rw [hE]; exact fin _ (kk.trans (Kp.of s'')) (tb23.same (s'.trans s''))⟩
 refine ⟨_,rfl,(by show 2≤sizeLine; decide),fun M1 hM1=>?_⟩
 have t1:=ak (o:=.lst [.str "filling",.str "told"]) hM1
 have f1:upd H23 M1 (.lst [.str "filling",.str "told"]) M1=some (.lst [.str "filling",.str "told"]):=ac
 generalize upd H23 M1 _=J1 at t1 f1 ⊢
 refine ⟨_,rfl,L8,_,0,_,rfl,rfl,aO.of (t1 _ _ e23),rfl,.inr ⟨_,rfl,M1,_,_,_,rfl,rfl,aO.of f1,yW _ _ _,?_⟩⟩
 refine ⟨(by show 2≤sizeLine; decide),fun M2 hM2=>?_⟩
 have t2:=ak (o:=.lst [.str "order",.str "told"]) hM2
 have f2:upd J1 M2 (.lst [.str "order",.str "told"]) M2=some (.lst [.str "order",.str "told"]):=ac
 generalize upd J1 M2 _=J2 at t2 f2 ⊢
 refine ⟨_,rfl,L8,_,1,_,rfl,rfl,aO.of (t2 _ _ (t1 _ _ e23)),rfl,.inr ⟨_,rfl,M2,_,_,_,rfl,rfl,aO.of f2,yW _ _ _,(by show 2≤sizeLine; decide),fun M3 hM3=>?_⟩⟩
 have t3:=ak (o:=.lst [.str (if ci (ay ts) o1=true then "told" else "filling"),.str (if dq (ay ts) o2=true then "told" else "order")]) hM3
 have t13:=t1.trans (t2.trans t3)
 refine ⟨.lst [.str (xo (ci (ay ts) o1)),.str (zC (dq (ay ts) o2))],.lst [.str (xo (ci (ay ts) o1)),.str (zC (dq (ay ts) o2))],mx (t13 _ _ e7),mx ac,u7 _ _,_,rfl,?_⟩
 rw [dt]
 refine bx ?_
 have t13':au H23 (upd J2 M3 (.lst [.str (if ci (ay ts) o1=true then "told" else "filling"),.str (if dq (ay ts) o2=true then "told" else "order")])):=t13
 refine ⟨_,rfl,_,rfl,(by show 2≤sizeLine; decide),fun L9 hL9=>?_⟩
 have t4:=t13'.trans (ak (o:=.lst [x,y]) hL9)
 have k24:=k23.trans (Kp.of t4)
 refine ⟨L9,_,rfl,rj ac (Dt.keep (aD.kp (r:=r) k24) _ _ hx) (Dt.keep (aD.kp (r:=r) k24) _ _ hy),pk1,pk2,pk3,_,rfl,rfl,_,rfl,?_⟩
 refine b7 (fun h=>absurd h (by simp)) (fun _=>?_)
 have e8:=t4 _ _ e23
 generalize upd (upd J2 M3 _) L9 _=H24 at t4 k24 e8 ⊢
 have S24:=S.kp k24
 refine ⟨_,rfl,L8,_,0,_,rfl,rfl,aO.of e8,rfl,_,rfl,?_⟩
 cases hb:ci (ay ts) o1 with
 | false=>exact bx (bx (rest { nx:=fun x H'=>Q V.non H',rt:=Q } _ rfl t4))
 | true =>
   refine br ⟨_,rfl,s,dx,_,rfl,S24.hs,rfl,_,rfl,s,dx,fl,dxf,Dd,p,zs,ts,m,x,o1,rfl,S24,ok,px.kp k24,(fun z=>by rw [hb] at z; cases z),fun bs _ eo hbs hrb H25 a25 s25 e25=>?_⟩
   subst eo
   obtain ⟨fb,rfl,hfb,hbl⟩:=Ac px
   rw [List.length_map] at hbl
   have k25:=k24.trans (Kp.of s25)
   refine ⟨_,rfl,_,rfl,_,rfl,l,fb,p,ys,ts,bs,m,rfl,S.hp,k25.lst hl,a8.keep hts k25.tup,k25.tup _ _ hfb,hbl,fun t ht=>?_,hm,hm2,fun H26 a26 s26 e26=>?_⟩
   ·obtain ⟨g1,g2,g3,g4⟩:=hG t ht
    exact ⟨g1,by omega,fun k hk=>⟨g3 k hk,by have:=gU ht g2 hk; omega⟩⟩
   refine ⟨_,_,vD (s26 _ _ e25),vD e26,by rw [zQ]; decide,_,rfl,?_⟩
   rw [dt]
   exact bx (rest { nx:=fun x H'=>Q V.non H',rt:=Q } _ rfl (t4.trans (s25.trans s26)))
end
end K07
namespace L2
open PySem PySem.Spec PyProof.Rows PySem.W
section
variable {X:Cx}
noncomputable def ia:Int->Nat->List Int
 | _,0=>[]
 | i,n + 1=>i :: ia (i + 1) n
theorem hX:∀ (n:Nat)(i:Int),(ia i n).length=n
 | 0,_=>rfl
 | n + 1,i=>by show (ia (i + 1) n).length + 1=n + 1; rw [hX n]
theorem oX:∀ (n:Nat)(i x:Int),x∈ia i n->i≤x∧x < i + n
 | 0,i,x,h=>nomatch h
 | n + 1,i,x,h=>by
   rcases List.mem_cons.mp h with rfl | h
   ·omega
   ·have:=oX n (i + 1) x h; omega
theorem oa:∀ (us:List Value)(i:Int),(∀ (j:Nat)(v:Value),us[j]?=some v->∃ t,v=Value.int (i + (j:Nat)) t)->aJ ((ia i us.length).map V.int) us
 | [],_,_=>.nil
 | u :: us,i,h=>by
   obtain ⟨t,e⟩:=h 0 u rfl
   refine .cons ⟨t,by rw [e]; simp⟩ (oa us (i + 1) fun j v hv=>?_)
   obtain ⟨t,e⟩:=h (j + 1) v (by simpa using hv)
   refine ⟨t,?_⟩
   rw [e]
   congr 1
   omega
noncomputable def w6 (ta:TA):TE:=fun σ H Q=>ta σ H fun vs H1=>∃ i j:Int,vs=[.int i,.int j]∧(-(2 ^ 62)≤i∧i < 2 ^ 62∧-(2 ^ 62)≤j∧j < 2 ^ 62)∧(j - i).toNat≤4000∧∀ D,H1 D=none->Q (.ref D) (upd H1 D (.lst ((ia i (j - i).toNat).map V.int)))
theorem pW {a b:Expr}{ta:TA}{p p2 pos pos2:Pos}(ha:PA X [a,b] ta)(hc:X.calm=true)(hgl:Gl X "list")(hml:X.mg "list"=none)(hgr:Gl X "range")(hmr:X.mg "range"=none)(hs:starEach [a,b] X.env=[(false,eval a X.env),(false,eval b X.env)]:=by rfl)(hs2:starEach [b] X.env=[(false,eval b X.env)]:=by rfl):
 PE X (.Call (.Name "list" p) [.Call (.Name "range" p2) [a,b] [] pos2] [] pos) (w6 ta):=by
 intro pins s σ H Q I h
 refine wpAny_Call_Name_kw (du I hgl hml (by rfl) ?_ (by decide) (by decide))
 refine callWith_type1 ?_ (bn rfl) rfl
 rw [bn rfl]
 show wpAny _ _ (spliced ((false,eval (.Call (.Name "range" p2) [a,b] [] pos2) X.env):: backTo pos (starEach [] X.env))) _ _ s
 refine Calls.spliced_cons ?_
 refine wpAny_Call_Name_kw (du I hgr hmr boot_range ?_ (by decide) (by decide))
 refine callWith_type1 (bF (ha pos2 pins s σ H _ I h) fun us s1 ⟨vs,H1,I1,r1,q1⟩=>?_) (by rw [hs,hs2]) (by rw [hs2]; rfl)
 obtain ⟨i,j,e,⟨q1,q2,q3,q4⟩,hz,q⟩:=q1
 subst e
 cases r1 with
 | cons r rr =>
   cases rr with
   | cons r' rr =>
     cases rr
     obtain ⟨t,rfl⟩:=r
     obtain ⟨t',rfl⟩:=r'
     refine call_range_2 ?_
     refine Calls.spliced_nil ?_
     have I2:Inv X pins σ H1 { s1 with heap:=s1.heap.push { cls:=.type "range",data:=.fields #[.int i t,.int j t',.int 1 s1.toks] },toks:=s1.toks + 1 }:=I1.kept fun b o e=>Heap.get?_push_of_some _ e
     refine call_list_range (n:=(j - i).toNat) (I.ok.hd hc) (IsRange.new ..) (small_one q1 q2 q3 q4) (by rw [rangeSize_one]; split <;> omega) (Nat.le_trans hz (by decide)) fun h' tk acc c hk hD hI=>?_
     have fr:(s1.heap.push { cls:=.type "range",data:=.fields #[.int i t,.int j t',.int 1 s1.toks] }).get? (s1.heap.push { cls:=.type "range",data:=.fields #[.int i t,.int j t',.int 1 s1.toks] }).objs.size=none:=by
      cases e:(s1.heap.push { cls:=.type "range",data:=.fields #[.int i t,.int j t',.int 1 s1.toks] }).get? (s1.heap.push { cls:=.type "range",data:=.fields #[.int i t,.int j t',.int 1 s1.toks] }).objs.size with
      | none=>rfl
      | some o=>exact absurd (Heap.lt_size e) (Nat.lt_irrefl _)
     have hv:aJ ((ia i (j - i).toNat).map V.int) acc.toList:=by
      have z:=oa acc.toList i fun k v hv=>by
       obtain ⟨t,e⟩:=hI.2 k v (by simpa using hv)
       exact ⟨t,by rw [e]; simp⟩
      rw [Array.length_toList,hI.1] at z
      exact z
     exact ⟨.ref _,_,I2.newObj (t':=tk) (o:=.lst ((ia i (j - i).toNat).map V.int)) hk fr ⟨by rw [List.length_map,hX]; exact Nat.le_trans hz (by decide),acc.toList,c,hv,by simpa using hD⟩,rfl,q _ (I2.hnone fr)⟩
end
end L2
namespace K07
open PySem L2 PySem.W Nm Srt
theorem lX {p:Int}:∀ (n:Nat)(ts:List Tm),ts.length=n->(ts.map (·.1)).Nodup->aV p ts=ts
 | 0,ts,hn,_=>by
   have:ts=[]:=List.length_eq_zero_iff.mp hn
   subst this
   rfl
 | n + 1,ts,hn,nd=>by
   obtain ⟨ini,t,rfl⟩:∃ ini t,ts=ini++[t]:=by
    have hne:ts≠[]:=by intro z; rw [z] at hn; cases hn
    exact ⟨ts.dropLast,ts.getLast hne,(List.dropLast_concat_getLast hne).symm⟩
   have hl:ini.length=n:=by simpa using hn
   rw [List.map_append] at nd
   obtain ⟨nd1,_,dj⟩:=List.nodup_append.mp nd
   rw [eF,lX n ini hl nd1]
   unfold iN
   rw [if_neg]
   intro h
   obtain ⟨e,he,e1⟩:=List.any_eq_true.mp h
   have e1:e.1=t.1:=of_decide_eq_true e1
   exact dj e.1 (List.mem_map.mpr ⟨e,he,rfl⟩) t.1 (by simp) e1
theorem io (d:List Tm):(cC d).Perm (d.filter fun e=>e.2.1 != 0):=by
 unfold cC
 have z:=(cz ((d.filter fun e=>e.2.1 != 0).map fun e=>(keyOf e,e))).map (·.2)
 rw [List.map_map] at z
 have e:((fun x:Ky × Tm=>x.2) ∘ fun e:Tm=>(keyOf e,e))=id:=rfl
 rw [e,List.map_id] at z
 exact z
theorem jw {d:List Tm}{t:Tm}(h:t∈cC d):t∈d∧t.2.1≠0:=by
 have:=(io d).mem_iff.mp h
 obtain ⟨h1,h2⟩:=List.mem_filter.mp this
 exact ⟨h1,by simpa using h2⟩
theorem rp {d:List Tm}(nd:(d.map (·.1)).Nodup):((cC d).map (·.1)).Nodup:=by
 refine ((io d).map (·.1)).nodup_iff.mpr ?_
 exact List.Nodup.sublist (List.Sublist.map _ List.filter_sublist) nd
theorem wM {ts:List Tm}(nd:(ts.map (·.1)).Nodup):((ts.map fun e=>(keyOf e,e)).map (·.1)).Nodup:=by
 rw [List.map_map]
 have e:((fun x:Ky × Tm=>x.1) ∘ fun e:Tm=>(keyOf e,e))=keyOf:=rfl
 rw [e]
 unfold List.Nodup at nd ⊢
 rw [List.pairwise_map] at nd ⊢
 refine nd.imp fun h z=>h ?_
 unfold keyOf at z
 injection z
theorem w9 (d:List Tm):(cC d).length≤d.length:=by
 rw [(io d).length_eq]
 exact List.length_filter_le _ _
theorem uR {p:Int}{d:List Tm}(nd:(d.map (·.1)).Nodup):cC (aV p (cC d))=cC d:=by
 rw [lX _ (cC d) rfl (rp nd)]
 have nf:((d.filter fun e=>e.2.1 != 0).map (·.1)).Nodup:=List.Nodup.sublist (List.Sublist.map _ List.filter_sublist) nd
 have up:=kQ (wM nf)
 have e:(cC d).map (fun e=>(keyOf e,e))=cA ((d.filter fun e=>e.2.1 != 0).map fun e=>(keyOf e,e)):=by
  unfold cC
  rw [List.map_map]
  have:∀ x∈cA ((d.filter fun e=>e.2.1 != 0).map fun e=>(keyOf e,e)),((fun e:Tm=>(keyOf e,e)) ∘ fun x:Ky × Tm=>x.2) x=x:=fun x hx=>by
   have m:=(cz _).mem_iff.mp hx
   obtain ⟨t,_,rfl⟩:=List.mem_map.mp m
   rfl
  rw [List.map_congr_left this,List.map_id']
 have ef:(cC d).filter (fun e=>e.2.1 != 0)=cC d:=List.filter_eq_self.mpr fun t ht=>by
  have:=(jw ht).2
  simpa using this
 have e2:cA ((cC d).map fun e=>(keyOf e,e))=(cC d).map fun e=>(keyOf e,e):=by
  rw [← e] at up
  exact (ph (wM (rp nd)) up (List.Perm.refl _)).symm
 show (cA (((cC d).filter fun e=>e.2.1 != 0).map fun e=>(keyOf e,e))).map (·.2)=cC d
 rw [ef,e2,List.map_map]
 exact List.map_id _
theorem vw {p:Int}{d:List Tm}{t e:Tm}(h:e∈iN p d t):(∃ e0∈d,e0.1=e.1)∨e.1=t.1:=by
 unfold iN at h
 split at h
 ·obtain ⟨e0,h0,rfl⟩:=List.mem_map.mp h
  refine .inl ⟨e0,h0,?_⟩
  split <;> rfl
 ·rcases List.mem_append.mp h with h | h
  ·exact .inl ⟨e,h,rfl⟩
  ·have:e=t:=by simpa using h
   exact .inr (by rw [this])
theorem oo {p:Int}:∀ (n:Nat)(ts:List Tm),ts.length=n->∀ e∈aV p ts,∃ t∈ts,t.1=e.1
 | 0,ts,hn,e,he=>by
   have:ts=[]:=List.length_eq_zero_iff.mp hn
   subst this
   exact absurd (show e∈([]:List Tm) from he) (by simp)
 | n + 1,ts,hn,e,he=>by
   obtain ⟨ini,t,rfl⟩:∃ ini t,ts=ini++[t]:=by
    have hne:ts≠[]:=by intro z; rw [z] at hn; cases hn
    exact ⟨ts.dropLast,ts.getLast hne,(List.dropLast_concat_getLast hne).symm⟩
   have hl:ini.length=n:=by simpa using hn
   rw [eF] at he
   rcases vw he with ⟨e0,h0,e1⟩ | e1
   ·obtain ⟨t0,m0,q⟩:=oo n ini hl e0 h0
    exact ⟨t0,List.mem_append_left _ m0,q.trans e1⟩
   ·exact ⟨t,by simp,e1.symm⟩
structure Due (p:Int)(ts:List Tm):Prop where
 len:ts.length≤6
 gn:∀ t∈ts,Gn p 283 t.2
 pw:∀ t∈ts,t.1.Pairwise (· < ·)
 pl:∀ t∈ts,∀ k∈t.1,0≤k∧k < 6
 pn:∀ t∈ts,t.1.length≤60
 self:cC (aV p ts)=ts
theorem zI {p many:Int}{raw:List Tm}(hp:FP p)(hm:many≤6)(hl:raw.length≤6)(h:∀ t∈raw,BD p many t):Due p (cC (aV p raw)):=by
 obtain ⟨g1,g2,g3⟩:=gh (m:=45) hp raw.length raw rfl fun t ht=>(h t ht).1
 have fr:∀ t∈cC (aV p raw),∃ t0∈raw,t0.1=t.1:=fun t ht=>oo raw.length raw rfl t (jw ht).1
 refine ⟨Nat.le_trans (w9 _) (Nat.le_trans g3 hl),fun t ht=>?_,fun t ht=>?_,fun t ht k hk=>?_,fun t ht=>?_,uR g2⟩
 ·have g:=g1 t (jw ht).1
  have le:(45 + 1) * raw.length + 7≤283:=by omega
  exact ⟨g.1,g.2.1.mono le,g.2.2.mono le⟩
 ·obtain ⟨t0,h0,e⟩:=fr t ht
  rw [← e]; exact (h t0 h0).2.1
 ·obtain ⟨t0,h0,e⟩:=fr t ht
  rw [← e] at hk
  have:=(h t0 h0).2.2.1 k hk
  omega
 ·obtain ⟨t0,h0,e⟩:=fr t ht
  rw [← e]; exact (h t0 h0).2.2.2
theorem Due.prw {p:Int}{ts:List Tm}(d:Due p ts):∀ t∈ts,A8 t.1:=fun t ht=>⟨d.pw t ht,fun k hk=>(d.pl t ht k hk).1,by have:=d.pn t ht; omega⟩
theorem Due.ok {p:Int}{ts:List Tm}(d:Due p ts):pX p 283 ts:=⟨by have:=d.len; omega,fun t ht=>⟨d.gn t ht,d.prw t ht⟩,by have:=d.len; omega,by decide⟩
theorem Due.prd {p:Int}{ts:List Tm}(d:Due p ts):∀ t∈ts,Gn p 283 t.2∧Bb t.1:=fun t ht=>⟨d.gn t ht,zF (d.pw t ht) (fun k hk=>by have:=d.pl t ht k hk; omega) (by have:=d.pn t ht; omega)⟩
theorem Due.reach {p:Int}{ts:List Tm}(d:Due p ts):0≤ay ts∧ay ts≤6:=⟨vR d.prw,vv (by decide) fun t ht k hk=>(d.pl t ht k hk).2⟩
noncomputable def xp (K:Frag)(H:Hp)(a:Addr)(ns:List Int):Prop:=(∃ o,H a=some (.frz o (.lst (ns.map V.int))))∨∃ (o:Obj)(its:Array Value)(n:Nat),K.lookup a=some o∧o.cls = .type "list"∧o.dict=none∧o.data = .seq its n∧its.size≤sizeLine∧L2.aJ (ns.map V.int) its.toList
theorem xp.sq {K:Frag}{H:Hp}{a:Addr}{ns:List Int}(h:xp K H a ns):aO K H a (ns.map V.int):=by
 rcases h with ⟨o,h⟩ | h
 ·exact .inl (.inr ⟨o,h⟩)
 ·exact .inr h
theorem xp.same {K:Frag}{H H':Hp}{a:Addr}{ns:List Int}(h:xp K H a ns)(S:au H H'):xp K H' a ns:=by
 rcases h with ⟨o,h⟩ | h
 ·exact .inl ⟨o,S _ _ h⟩
 ·exact .inr h
theorem xp.keep {K:Frag}{H H':Hp}{a r:Addr}{ns:List Int}(h:xp K H a ns)(S:aD r H H'):xp K H' a ns:=by
 rcases h with ⟨o,h⟩ | h
 ·exact .inl ⟨o,S _ _ h (fun _ l z=>by cases z) fun _ z=>by cases z⟩
 ·exact .inr h
theorem c4 {ls:List Pos}{q:Str}{Pt r:Addr}{H H':Hp}(h:i9 ls q Pt H)(R:aH H r)(S:SameBut r H H'):i9 ls q Pt H':=by
 obtain ⟨l,x,e,_⟩:=R
 exact h.but e S
noncomputable def wm (K:Frag)(Pt:Addr):Sp:=fun vs H Q _=>∃ (a:Addr)(ns:List Int),vs=[.ref a]∧xp K H a ns∧ns.length≤63∧qG Pt H∧∀ H',Q (.bl true) H'
noncomputable abbrev Al:Stmt:=aY 60
noncomputable abbrev NW:List Str:=["_law_script","_law_k","_law_room_here","_law_prime_here","_law_due","_law_one","_law_filling_here","_law_left","_law_order","_law_thing","_law_row"]
theorem fj:FnScope NW ["_law_script"] (aj Al):=⟨rfl,rfl,rfl,by decide +kernel,rfl,by decide +kernel,by decide +kernel⟩
theorem FP.good {p:Int}(h:FP p):good (.int p)=true:=by
 show i7 p=true
 unfold i7
 rcases h with h | h
 ·rw [h]; rfl
 ·have:(primes.any fun q=>q == p)=true:=by
   rw [List.any_eq_true]
   exact ⟨p,h,by simp⟩
  rw [this]
  simp
section
variable {P:Program}{w:World}{K:PySem.W.Frag}{mg:Str->Option Value}{base:Heap}{C CF NF NO cc Pt f:Addr}
theorem wK {oc kV doc pm ct:Value}{od an:Option Addr}{osl:Array (Option Value)}(lk:K.lookup f=some ⟨oc,od,.func (fnOf "_law_asked" "_law_asked" (cm ce) (bv ce) (aj ce) .none kV doc pm an (.ref cc) ct),osl⟩)(hcd:codeIn K (.ref cc) "_law_asked"=true)
 (T:AllA P w K mg base C CF NF NO cc Pt):FnOk P w K mg base (aU P w) 12 f (fnOf "_law_asked" "_law_asked" (cm ce) (bv ce) (aj ce) .none kV doc pm an (.ref cc) ct) ["_law_one","_law_prime_here","_law_due","_law_thing","_law_order"] (nC C CF Pt):=by
 refine rV lk hcd eT (fun vs H Q E h=>?_) fun A outer s H vs Q E hr hsp=>?_
 ·obtain ⟨s,dx,fl,dxf,D,l,r,p,zs,ys,ts,m,x,y,d1,d2,rfl,_⟩:=h
  rfl
 ·obtain ⟨t,h,q⟩:=p6 (fa:=f) (A:=A) (outer:=outer) (s0:=s) (H0:=H) (E0:=E) hr T hsp
  exact ⟨t,h.nox,q⟩
end
structure AllW (P:Program)(w:World)(K:Frag)(mg:Str->Option Value)(base:Heap)(C CF NFd Pt fSI fFI:Addr)(fdSI fdFI:FuncData):Prop where
 c:SumK K mg C
 cF:FieldK K mg CF
 MS:Mk K C fSI
 SI:FnOk P w K mg base (aU P w) 6 fSI fdSI ["self","field","terms"] (mE C CF)
 bSI:L2.ax K fdSI ["self","field","terms"] []
 MF:Mk K CF fFI
 FI:FnOk P w K mg base (aU P w) 2 fFI fdFI ["self","prime"] (wN CF NFd)
 bFI:L2.ax K fdFI ["self","prime"] []
 room:∃ f fd,FnOk P w K mg base (aU P w) 1 f fd ["_law_script","_law_k"] (ve K)∧L2.ax K fd ["_law_script","_law_k"] []∧mg "_law_room"=some (.ref f)∧keepIn K (.ref f)=true
 prime:∃ f fd,FnOk P w K mg base (aU P w) 2 f fd ["_law_room_here"] spPrimeL∧L2.ax K fd ["_law_room_here"] []∧mg "_law_prime"=some (.ref f)∧keepIn K (.ref f)=true
 gather:∃ f fd,FnOk P w K mg base (aU P w) 4 f fd ["_law_prime_here","_law_terms_here"] spLGath∧L2.ax K fd ["_law_prime_here","_law_terms_here"] []∧mg "_law_gather"=some (.ref f)∧keepIn K (.ref f)=true
 terms:∃ f fd,FnOk P w K mg base (aU P w) 3 f fd ["_law_room_here","_law_prime_here","_law_many","_law_most"] spLTerms∧L2.ax K fd ["_law_room_here","_law_prime_here","_law_many","_law_most"] []∧mg "_law_terms"=some (.ref f)∧keepIn K (.ref f)=true
 take:∃ f fd,FnOk P w K mg base (aU P w) 1 f fd ["_law_room_here","_law_many"] spTake∧L2.ax K fd ["_law_room_here","_law_many"] []∧mg "_law_take"=some (.ref f)∧keepIn K (.ref f)=true
 fill:∃ f fd,FnOk P w K mg base (aU P w) 2 f fd ["_law_room_here","_law_many"] spLFill∧L2.ax K fd ["_law_room_here","_law_many"] []∧mg "_law_filling"=some (.ref f)∧keepIn K (.ref f)=true
 reach:∃ f fd,FnOk P w K mg base (aU P w) 1 f fd ["_law_terms_here"] spLReach∧L2.ax K fd ["_law_terms_here"] []∧mg "_law_reach"=some (.ref f)∧keepIn K (.ref f)=true
 odd:∃ f fd,FnOk P w K mg base (aU P w) 2 f fd ["_law_room_here","_law_row","_law_spare"] spOddT∧FnOk P w K mg base (aU P w) 2 f fd ["_law_room_here","_law_row","_law_spare"] spOddL∧L2.ax K fd ["_law_room_here","_law_row","_law_spare"] []∧mg "_law_odd"=some (.ref f)∧keepIn K (.ref f)=true
 asked:∃ f fd,FnOk P w K mg base (aU P w) 12 f fd ["_law_one","_law_prime_here","_law_due","_law_thing","_law_order"] (nC C CF Pt)∧L2.ax K fd ["_law_one","_law_prime_here","_law_due","_law_thing","_law_order"] []∧mg "_law_asked"=some (.ref f)∧keepIn K (.ref f)=true
 m_max:mg "max"=none
 m_min:mg "min"=none
 m_len:mg "len"=none
 m_range:mg "range"=none
 m_list:mg "list"=none
noncomputable def m3 (r:Addr)(H:Hp)(x:V):Prop:=∃ (z:Addr)(y1 y2:V)(d1 d2:PyData),x = .ref z∧H z=some (.tup [y1,y2])∧Dt r H d1 y1∧Sm d1∧Dt r H d2 y2∧Sm d2
theorem m3.keep {r:Addr}{H H':Hp}{x:V}(h:m3 r H x)(k:aD r H H'):m3 r H' x:=by
 obtain ⟨z,y1,y2,d1,d2,e,hz,a,b,c,d⟩:=h
 exact ⟨z,y1,y2,d1,d2,e,k.tup _ _ hz,Dt.keep k _ _ a,b,Dt.keep k _ _ c,d⟩
theorem ma {ns:List Int}(hl:ns.length≤20)(h:∀ n∈ns,jt n):Sm (.tuple (ns.map PyData.int)):=jM (eR h) (by rw [eU]; decide) (by rw [dR]; omega) (by rw [List.length_map]; omega)
theorem mf {ns:List Int}(hl:ns.length≤20)(h:∀ n∈ns,jt n):Sm (.list (ns.map PyData.int)):=jI (eR h) (by rw [eU]; decide) (by rw [dR]; omega) (by rw [List.length_map]; omega)
theorem uZ {H:Hp}{r D:Addr}{zs:List V}{ts:List Tm}(R:aH H r)(hD:H D=some (.lst zs))(h:a8 H zs ts):D≠r:=fun z=>by
 obtain ⟨l,x,e,_⟩:=R
 rw [z,e] at hD
 have hD:=HO.lst.inj (Option.some.inj hD)
 subst hD
 cases h with
 | cons h _ =>
   obtain ⟨a,pr,nu,z,_⟩:=h
   cases z
theorem uB (ns:List Int):∀ k:Nat,(ns.map V.int).eraseIdx k=(ns.eraseIdx k).map V.int:=by
 induction ns with
 | nil=>intro k; rfl
 | cons n ns ih =>
   intro k
   cases k with
   | zero=>rfl
   | succ k =>
     show V.int n :: (ns.map V.int).eraseIdx k=V.int n :: (ns.eraseIdx k).map V.int
     rw [ih]
theorem AD {z:Int}{n:Nat}(h0:0≤z)(h1:z < (n:Int)):seqIndex? z n=some z.toNat:=by
 unfold seqIndex?
 have e:¬ z < 0:=by omega
 simp [e,h0,h1]
theorem nU {n:Int}(h0:0≤n)(h1:n < 100):jt n:=by unfold jt; omega
section
variable {P:Program}{w:World}{K:PySem.W.Frag}{mg:Str->Option Value}{base:Heap}
set_option maxHeartbeats 2000000 in
theorem zz {f C CF NFd Pt fSI fFI:Addr}{fd fdSI fdFI:FuncData}(F:Fun K "law" "law" Al f fd)(W:AllW P w K mg base C CF NFd Pt fSI fFI fdSI fdFI):FnOk P w K mg base (aU P w) 13 f fd ["_law_script"] (wm K Pt):=by
 refine F.okN fj (fun vs H Q E h=>?_) (fun cdv A outer s H vs Q E hr h=>?_)
 ·obtain ⟨a,ns,rfl,_⟩:=h
  rfl
 ·obtain ⟨a,ns,rfl,scr,hlen,tb,fin⟩:=h
  obtain ⟨c,cF,MS,FSI,bSI,MF,FFI,bFI,⟨fRm,fdRm,FRm,bRm,mRm,kRm⟩,⟨fPr,fdPr,FPr,bPr,mPr,kPr⟩,⟨fLg,fdLg,FLg,bLg,mLg,kLg⟩,⟨fLt,fdLt,FLt,bLt,mLt,kLt⟩,⟨fTk,fdTk,FTk,bTk,mTk,kTk⟩,⟨fLf,fdLf,FLf,bLf,mLf,kLf⟩,⟨fR,fdR,FR,bR,mR,kR⟩,⟨fO,fdO,FOT,FOL,bO,mO,kO⟩,⟨fA,fdA,FA,bA,mA,kA⟩,m_max,m_min,m_len,m_range,m_list⟩:=W
  have hr12:Room 12 _:=hr
  have hr7:Room 7 _:=hr.mono (by decide)
  have hr4:Room 4 _:=hr.mono (by decide)
  have hr3:Room 3 _:=hr.mono (by decide)
  have hr2:Room 2 _:=hr.mono (by decide)
  have hr1:Room 1 _:=hr.mono (by decide)
  refine ⟨_,(ai (fV PassesOwn.never rfl (eu (by rfl) m_range (@ag _ _ _ _ _ (ar (iJ rfl) (by rfl) m_max (by rfl) (@ag _ _ _ _ _ ah (@ag _ _ _ _ _ (ar (lF rfl) (by rfl) m_min (by rfl) (@ag _ _ _ _ _ (ar aQ (by rfl) m_len PySem.boot_len (@ag _ _ _ _ _ (pv 0) ad rfl)) (@ag _ _ _ _ _ ah ad rfl) rfl)) ad rfl) rfl)) ad rfl)) (aE (i:=1) fj.nd rfl (Or.inl rfl))
   (ai (@aK _ _ 2 _ _ _ _ fj.nd rfl (Or.inr rfl) (aq FRm hr1 (by rfl) mRm kRm bRm .nil ae (@ag _ _ _ _ _ (pv 0) (@ag _ _ _ _ _ (pv 1) ad rfl) rfl)) rfl (Or.inl rfl))
   (ai (@aK _ _ 3 _ _ _ _ fj.nd rfl (Or.inl rfl) (aq FPr hr2 (by rfl) mPr kPr bPr .nil ae (@ag _ _ _ _ _ (pv 2) ad rfl)) rfl (Or.inl rfl))
   (ai (@aK _ _ 4 _ _ _ _ fj.nd rfl (Or.inl rfl) (aq FLg hr4 (by rfl) mLg kLg bLg .nil ae (@ag _ _ _ _ _ (pv 3) (@ag _ _ _ _ _ (aq FLt hr3 (by rfl) mLt kLt bLt .nil ae (@ag _ _ _ _ _ (pv 2) (@ag _ _ _ _ _ (pv 3) (@ag _ _ _ _ _ (@az _ _ _ _ _ _ _ _ cr ah (aq FTk hr1 (by rfl) mTk kTk bTk .nil ae (@ag _ _ _ _ _ (pv 2) (@ag _ _ _ _ _ ah ad rfl) rfl))) (@ag _ _ _ _ _ ah ad rfl) rfl) rfl) rfl)) ad rfl) rfl)) rfl (Or.inl rfl))
   (ai (@aK _ _ 5 _ _ _ _ fj.nd rfl (Or.inl rfl) (nw MS FSI hr7 (by rfl) c.mgC bSI .nil ae (@ag _ _ _ _ _ (nw MF FFI hr3 (by rfl) cF.mgC bFI .nil ae (@ag _ _ _ _ _ (pv 3) ad rfl)) (@ag _ _ _ _ _ (pv 4) ad rfl) rfl)) rfl (Or.inl rfl))
   (ai (@aK _ _ 6 _ _ _ _ fj.nd rfl (Or.inl rfl) (aq FLf hr2 (by rfl) mLf kLf bLf .nil ae (@ag _ _ _ _ _ (pv 2) (@ag _ _ _ _ _ (@az _ _ _ _ _ _ _ _ cr (aq FR hr1 (by rfl) mR kR bR .nil ae (@ag _ _ _ _ _ (pv 4) ad rfl)) (aq FTk hr1 (by rfl) mTk kTk bTk .nil ae (@ag _ _ _ _ _ (pv 2) (@ag _ _ _ _ _ ah ad rfl) rfl))) ad rfl) rfl)) rfl (Or.inl rfl))
   (ai (@aK _ _ 7 _ _ _ _ fj.nd rfl (Or.inr rfl) (pW (@ag _ _ _ _ _ (aq FTk hr1 (by rfl) mTk kTk bTk .nil ae (@ag _ _ _ _ _ (pv 2) (@ag _ _ _ _ _ ah ad rfl) rfl)) (@ag _ _ _ _ _ ah ad rfl) rfl) rfl (by rfl) m_list (by rfl) m_range) rfl (Or.inl rfl))
   (ai (jq (i:=8) (te:=CI K "list" rPopAt (c7 2) (cf (yR spTake [] (fun _ _ _=>False) (cf (c7 1) (cf (AG (rJ K) (cf (c7 2) tNil)) tNil))) tNil)) (N:=["_law_place","_law_room_here","_law_left"]) (nl:=1) (js:=[2,7]) (osc:=aj Al) ⟨rfl,rfl,by decide +kernel,by decide +kernel,by decide +kernel,rfl,(.cons ⟨rfl,by decide +kernel⟩ (.cons ⟨rfl,by decide +kernel⟩ .nil)),by decide +kernel⟩ rfl fj.nd rfl (Or.inl rfl)
    (eu (by rfl) m_range (@ag _ _ _ _ _ (ar (lF rfl) (by rfl) m_min (by rfl) (@ag _ _ _ _ _ (ar aQ (by rfl) m_len PySem.boot_len (@ag _ _ _ _ _ (pv 7) ad rfl)) (@ag _ _ _ _ _ ah ad rfl) rfl)) ad rfl))
    (fun C fp s H=>aE (i:=0) (by show (["_law_place","_law_room_here","_law_left"]:List Str).Nodup; decide +kernel) rfl (Or.inl rfl) (Or.inr rfl))
    (fun C fp s H=>cL)
    (fun C fp s H=>(og PySem.F.plainAttrs_list PySem.F.slot_list_pop PySem.F.type_list_pop wx (pv 2) (@ag _ _ _ _ _ (aq FTk hr1 (by rfl) mTk kTk bTk .nil ae (@ag _ _ _ _ _ (pv 1) (@ag _ _ _ _ _ (ar (tP (K:=K) rfl) (by rfl) m_len PySem.boot_len (@ag _ _ _ _ _ (pv 2) ad rfl)) ad rfl) rfl)) ad rfl))) (by rfl))
   (ai (fV PassesOwn.never rfl (cK (@bq _ _ _ _ (@ag _ _ _ _ _ (@bH _ _ _ _ _ (@ag _ _ _ _ _ (pv 6) (@ag _ _ _ _ _ (pv 8) ad rfl) rfl)) (@ag _ _ _ _ _ (@bH _ _ _ _ _ (@ag _ _ _ _ _ (aq FOT hr2 (by rfl) mO kO bO .nil ae (@ag _ _ _ _ _ (pv 2) (@ag _ _ _ _ _ (pv 6) (@ag _ _ _ _ _ ah ad rfl) rfl) rfl)) (@ag _ _ _ _ _ (aq FOL hr2 (by rfl) mO kO bO .nil ae (@ag _ _ _ _ _ (pv 2) (@ag _ _ _ _ _ (pv 8) (@ag _ _ _ _ _ (@aW _ _ _ _ _ _ _ aZ (@az _ _ _ _ _ _ _ _ ql (pv 8) (@bq _ _ _ _ (@ag _ _ _ _ _ ah ad rfl))) ah (fun _ _=>rfl)) ad rfl) rfl) rfl)) ad rfl) rfl)) ad rfl) rfl))) (cV rfl (aL (aE (i:=9) fj.nd rfl (Or.inl rfl)) (aL (aE (i:=10) fj.nd rfl (Or.inl rfl)) cw)))
   (am (a7 (bY (bw (aq FA hr12 (by rfl) mA kA bA .nil ae (@ag _ _ _ _ _ (pv 5) (@ag _ _ _ _ _ (pv 3) (@ag _ _ _ _ _ (pv 4) (@ag _ _ _ _ _ (pv 9) (@ag _ _ _ _ _ (pv 10) ad rfl) rfl) rfl) rfl) rfl)))) (am (av c9)) aC)))
   (am (a7 (bY (bw (aq FA hr12 (by rfl) mA kA bA .nil ae (@ag _ _ _ _ _ (pv 5) (@ag _ _ _ _ _ (pv 3) (@ag _ _ _ _ _ (pv 4) (@ag _ _ _ _ _ (cy hV (pv 6) cT (cW (aq FR hr1 (by rfl) mR kR bR .nil ae (@ag _ _ _ _ _ (pv 4) ad rfl)))) (@ag _ _ _ _ _ (cy fQ (pv 8) cT (cW (aq FR hr1 (by rfl) mR kR bR .nil ae (@ag _ _ _ _ _ (pv 4) ad rfl)))) ad rfl) rfl) rfl) rfl) rfl)))) (am (av c9)) aC)))))))))))
   (am (av c9))),?_⟩
  refine ⟨_,rfl,a,_,rfl,.inl scr.sq,_,_,rfl,_,_,rfl,_,rfl,?_,?_,?_⟩
  ·rw [List.length_map]
   split <;> split <;> omega
  ·rw [List.length_map]
   split <;> split <;> omega
  refine uw (lo:=0) (fun i σ H'=>∃ (o1 o2 o3 o4 o5 o6 o7 o8 o9 o10:Option V),σ=[some (.ref a),o1,o2,o3,o4,o5,o6,o7,o8,o9,o10]∧xp K H' a ns∧qG Pt H') ⟨none,none,none,none,none,none,none,none,none,none,rfl,scr,tb⟩ ?_ ?_
  ·rintro i σ G0 hi ⟨o1,o2,o3,o4,o5,o6,o7,o8,o9,o10,rfl,sc0,tb0⟩
   have hi60:i < 60:=by
    rw [List.length_map] at hi
    split at hi <;> split at hi <;> omega
   refine ⟨_,rfl,_,rfl,a,ns,0 + (i:Int),rfl,sc0.sq,hlen,by omega,by omega,fun r l1 r1 hr0 hr1 hr2=>?_⟩
   have S1:=ak (o:=.lst [.int l1,.int r1]) hr0
   have sc1:=sc0.same S1
   have tb1:=tb0.same S1
   have R1:aH (upd G0 r (.lst [.int l1,.int r1])) r:=⟨l1,r1,ac,hr1,hr2⟩
   generalize (upd G0 r (.lst [.int l1,.int r1]))=G1 at sc1 tb1 R1 ⊢
   clear sc0 tb0 hr0 S1
   refine ⟨_,rfl,r,rfl,R1,fun p G2 hp R2 S2=>?_⟩
   have sc2:=sc1.keep (aD.but R1 S2)
   have tb2:=c4 tb1 R1 S2
   clear sc1 tb1 S2 R1
   obtain ⟨l2,x2,h2,y0,y1⟩:=id R2
   refine ⟨_,rfl,_,rfl,_,rfl,_,rfl,r,l2,x2,6,rfl,h2,y0,y1,by decide,by decide,fun u l3 x3 u0 u1 g0 g1=>?_⟩
   have R3:aH (upd G2 r (.lst [.int l3,.int x3])) r:=⟨l3,x3,ac,g0,g1⟩
   have S3:SameBut r G2 (upd G2 r (.lst [.int l3,.int x3])):=SameBut.upd
   have sc3:=sc2.keep (aD.but R2 S3)
   have tb3:=c4 tb2 R2 S3
   generalize upd G2 r _=G3 at R3 S3 sc3 tb3 ⊢
   clear sc2 tb2 S3 R2 h2
   refine ⟨_,_,rfl,rfl,r,p,1 + u,6,rfl,R3,hp,by omega,by omega,by decide,by decide,fun D0 ys0 raw G4 hD0 hraw hrl hrg R4 S4=>?_⟩
   have sc4:=sc3.keep (aD.but R3 S4)
   have tb4:=c4 tb3 R3 S4
   refine ⟨D0,p,ys0,raw,45,rfl,hp,hD0,hraw,by omega,fun t ht=>(hrg t ht).1,by omega,by decide,fun G5 l ys S5 hl hts=>?_⟩
   have due:=zI hp (by omega) (by omega) hrg
   generalize cC (aV p raw)=ts at hts due
   have R5:=R4.same S5
   have sc5:=sc4.same S5
   have tb5:=tb4.same S5
   have nl:l≠r:=uZ R5 hl hts
   clear sc3 tb3 S4 R3 sc4 tb4 hD0 hraw hrg
   refine ⟨_,rfl,fun fl dxf hfl hdxf hne=>⟨fl,dxf,.int p,"int",rfl,.int p,ac,fun _=>⟨rfl,?_⟩,fun g=>by rw [hp.good] at g; cases g⟩⟩
   rw [rP]
   have S6:au G5 (upd (upd G5 dxf (.own fl)) fl (.ins CF dxf [("its_prime",.int p)])):=(ak hdxf).trans (ak (by rw [al (Ne.symm hne)]; exact hfl))
   have es:(upd (upd G5 dxf (.own fl)) fl (.ins CF dxf [("its_prime",.int p)])) fl=some (.ins CF dxf (gu p)):=ac
   generalize (upd (upd G5 dxf (.own fl)) fl (.ins CF dxf [("its_prime",.int p)]))=G6 at S6 es ⊢
   refine ⟨_,rfl,fun s dx hs hdx hne2=>?_⟩
   have S7:au G6 (upd (upd G6 dx (.own s)) s (.ins C dx [])):=(ak hdx).trans (ak (by rw [al (Ne.symm hne2)]; exact hs))
   have es7:(upd (upd G6 dx (.own s)) s (.ins C dx [])) s=some (.ins C dx []):=ac
   have n7:G6 s=none:=hs
   generalize (upd (upd G6 dx (.own s)) s (.ins C dx []))=G7 at S7 es7 ⊢
   have S57:=S6.trans S7
   refine ⟨s,dx,fl,dxf,p,.ref l,ts,283,rfl,es7,S7 _ _ es,hp,.inr ⟨l,ys,rfl,S57 _ _ hl,a8.keep hts (aA.of S57)⟩,by have:=due.len; omega,due.prd,by have:=due.len; omega,by decide,fun G8 D zs sb8 hs8 hD8 hz8=>⟨rfl,?_⟩⟩
   rw [due.self] at hz8
   have S8:au G6 G8:=fun b o e=>sb8 b o (S7 _ _ e) (ap e n7)
   have S58:=S6.trans S8
   have SA:SumAt C CF G8 s dx fl dxf D p zs ts:=⟨hs8,S8 _ _ es,hp,hD8,hz8⟩
   have hl8:=S58 _ _ hl
   have hts8:=a8.keep hts (aA.of S58)
   have R8:=R5.same S58
   have sc8:=sc5.same S58
   have tb8:=tb5.same S58
   have nD:D≠r:=uZ R8 hD8 hz8
   clear S6 S7 S8 S57 S58 es es7 n7 sb8 hs8 hD8 hz8 hl hts R5 sc5 tb5 hs hdx hfl hdxf
   have hP:=due.prw
   have h64:ts.length < 64:=by have:=due.len; omega
   obtain ⟨rc0,rc6⟩:=due.reach
   refine ⟨_,rfl,_,rfl,l,ys,ts,rfl,hl8,hts8,h64,hP,fun G9 S9=>?_⟩
   have R9:=R8.same S9
   have SA9:=SA.same S9
   have hl9:=S9 _ _ hl8
   have hts9:=a8.keep hts8 (aA.of S9)
   have sc9:=sc8.same S9
   have tb9:=tb8.same S9
   clear SA hl8 hts8 R8 sc8 tb8
   obtain ⟨l9,x9,h9,z0,z1⟩:=id R9
   refine ⟨_,rfl,r,l9,x9,3,rfl,h9,z0,z1,by decide,by decide,fun v l10 x10 v0 v1 w0 w1=>?_⟩
   have R10:aH (upd G9 r (.lst [.int l10,.int x10])) r:=⟨l10,x10,ac,w0,w1⟩
   have S10:SameBut r G9 (upd G9 r (.lst [.int l10,.int x10])):=SameBut.upd
   generalize upd G9 r _=G10 at R10 S10 ⊢
   have k10:aD r G9 G10:=aD.but R9 S10
   refine ⟨_,_,rfl,rfl,r,ay ts + v,rfl,R10,by omega,by omega,fun af bs G11 hbs hbl haf R11 S11=>?_⟩
   have k11:aD r G10 G11:=aD.but R10 S11
   have k911:=k10.trans k11
   have SA11:=SA9.keep nD k911
   have hl11:=k911.lst nl hl9
   have hts11:=a8.keep hts9 k911.tup
   have sc11:=sc9.keep k911
   have tb11:=c4 (c4 tb9 R9 S10) R10 S11
   clear SA9 hl9 hts9 R9 sc9 tb9 h9 R10 S10 S11 k10 k11 k911
   obtain ⟨l12,x12,h12,t0,t1⟩:=id R11
   refine ⟨_,rfl,r,l12,x12,52,rfl,h12,t0,t1,by decide,by decide,fun lo l13 x13 lo0 lo1 q0 q1=>?_⟩
   have R13:aH (upd G11 r (.lst [.int l13,.int x13])) r:=⟨l13,x13,ac,q0,q1⟩
   have S13:SameBut r G11 (upd G11 r (.lst [.int l13,.int x13])):=SameBut.upd
   have tb13:=c4 tb11 R11 S13
   generalize upd G11 r _=G13 at R13 S13 tb13 ⊢
   have k13:aD r G11 G13:=aD.but R11 S13
   have SA13:=SA11.keep nD k13
   have hl13:=k13.lst nl hl11
   have hts13:=a8.keep hts11 k13.tup
   have haf13:=k13.tup _ _ haf
   have sc13:=sc11.keep k13
   clear SA11 hl11 hts11 haf R11 S13 tb11 sc11 h12 k13
   refine ⟨lo,60,rfl,⟨by omega,by omega,by decide,by decide⟩,by omega,fun lf hlf=>?_⟩
   have nlf:=R13.ne hlf
   have S14:=ak (o:=.lst ((ia lo (60 - lo).toNat).map V.int)) hlf
   have e14:upd G13 lf (.lst ((ia lo (60 - lo).toNat).map V.int)) lf=some (.lst ((ia lo (60 - lo).toNat).map V.int)):=ac
   generalize upd G13 lf _=G14 at S14 e14 ⊢
   have hm9:(if (9:Int) < (((ia lo (60 - lo).toNat).map V.int).length:Int) then (9:Int) else (((ia lo (60 - lo).toNat).map V.int).length:Int))=9:=by
    rw [List.length_map,hX]
    split <;> omega
   refine ⟨_,rfl,lf,_,rfl,.inl (aO.of e14),_,_,rfl,_,rfl,?_,?_,?_⟩
   ·rw [hm9]; decide
   ·rw [hm9]; decide
   rw [hm9]
   refine wa (lo:=0) (n:=(9:Int).toNat) (rest:=[some (.ref r),some (.ref lf)]) (fun j us H'=>aH H' r∧qG Pt H'∧aD r G13 H'∧∃ left ms:List Int,H' lf=some (.lst (left.map V.int))∧left.length + j=(60 - lo).toNat∧us=ms.map V.int∧ms.length=j∧∀ x∈ms++left,0≤x∧x < 60)
    ⟨R13.same S14,tb13.same S14,aD.of S14,ia lo (60 - lo).toNat,[],e14,by rw [hX]; rfl,rfl,rfl,fun x hx=>by have:=oX _ _ _ (by simpa using hx); omega⟩ (fun j us H' hj h=>?_) (fun j us H' N hj h k=>?_) (fun us H' h=>?_)
   ·obtain ⟨_,_,_,left,ms,_,_,rfl,hms,_⟩:=h
    rw [List.length_map,hms]
    exact Nat.lt_of_le_of_lt hj (by decide)
   ·obtain ⟨RH,tbH,kH,left,ms,hleft,hll,rfl,hms,hall⟩:=h
    have hj9:j < 9:=hj
    have hpos:0 < left.length:=by omega
    obtain ⟨la,xa,ha,a0,a1⟩:=id RH
    refine ud ⟨_,rfl,.inl ⟨rfl,_,aO.of hleft⟩,_,rfl,_,rfl,lf,_,rfl,.inl (aO.of hleft),r,la,xa,((left.map V.int).length:Int),rfl,ha,a0,a1,by rw [List.length_map]; omega,by rw [List.length_map]; omega,fun z lb xb z0 z1 c0 c1=>?_⟩
    rw [List.length_map] at z1
    have RB:aH (upd H' r (.lst [.int lb,.int xb])) r:=⟨lb,xb,ac,c0,c1⟩
    have SB:SameBut r H' (upd H' r (.lst [.int lb,.int xb])):=SameBut.upd
    have tbB:=c4 tbH RH SB
    generalize upd H' r _=HB at RB SB tbB ⊢
    have hleftB:=SB _ _ hleft nlf
    have hz:z.toNat < left.length:=by omega
    refine ⟨lf,_,z,z.toNat,.int left[z.toNat],rfl,rfl,hleftB,by omega,by omega,by rw [List.length_map]; exact AD z0 z1,by rw [List.getElem?_map]; simp [hz],k _ _ ?_⟩
    rw [uB]
    refine ⟨?_,i9.but tbB hleftB (fun b o e n=>by rw [al n]; exact e),fun b o e q1 q2=>?_,left.eraseIdx z.toNat,ms++[left[z.toNat]],ac,?_,by simp,by simp [hms],fun x hx=>?_⟩
    ·obtain ⟨lc,xc,hc,d⟩:=RB
     exact ⟨lc,xc,by rw [al (Ne.symm nlf)]; exact hc,d⟩
    ·rw [al (ap e hlf)]
     exact (aD.but RH SB) b o (kH b o e q1 q2) q1 q2
    ·rw [List.length_eraseIdx,if_pos hz]; omega
    ·rcases List.mem_append.mp hx with hx | hx
     ·rcases List.mem_append.mp hx with hx | hx
      ·exact hall x (List.mem_append_left _ hx)
      ·have:x=left[z.toNat]:=by simpa using hx
       rw [this]
       exact hall _ (List.mem_append_right _ (List.getElem_mem hz))
     ·exact hall x (List.mem_append_right _ (List.mem_of_mem_eraseIdx hx))
   ·obtain ⟨R15,tb15,k15,left,ms,hleft,hll,rfl,hms,hall⟩:=h
    intro ao hao
    have nao:=R15.ne hao
    have S16:=ak (o:=.lst (ms.map V.int)) hao
    have e16:upd H' ao (.lst (ms.map V.int)) ao=some (.lst (ms.map V.int)):=ac
    generalize upd H' ao _=G16 at S16 e16 ⊢
    have k16:aD r G13 G16:=k15.trans (aD.of S16)
    have R16:=R15.same S16
    have tb16:=tb15.same S16
    have SA16:=SA13.keep nD k16
    have hl16:=k16.lst nl hl13
    have hts16:=a8.keep hts13 k16.tup
    have haf16:=k16.tup _ _ haf13
    have sc16:=sc13.keep k16
    have sms:∀ n∈ms,jt n:=fun n hn=>by have:=hall n (List.mem_append_left _ hn); exact nU this.1 (by omega)
    have sbs:∀ n∈bs,jt n:=fun n hn=>by have:=hbs n hn; exact nU this.1 (by omega)
    have lms:ms.length≤20:=by rw [hms]; decide
    have lbs:bs.length≤20:=by omega
    clear SA13 hl13 hts13 haf13 sc13 k15 k16 R15 tb15 hleft hll S14 e14 hlf tb13 R13 hall
    refine ⟨_,rfl,_,rfl,(by show 2≤sizeLine; decide),fun z1 hz1=>?_⟩
    have S17:=ak (o:=.tup [.ref af,.ref ao]) hz1
    have e17:upd G16 z1 (.tup [.ref af,.ref ao]) z1=some (.tup [.ref af,.ref ao]):=ac
    generalize upd G16 z1 _=G17 at S17 e17 ⊢
    have R17:=R16.same S17
    refine ⟨_,rfl,_,rfl,r,af,bs,1,rfl,R17,S17 _ _ haf16,lbs,sbs,nU (by decide) (by decide),fun y1 G18 d1 R18 S18 hd1 sm1=>?_⟩
    have k18:aD r G17 G18:=aD.but R17 S18
    have tb18:=c4 (tb16.same S17) R17 S18
    refine ⟨_,rfl,_,rfl,_,rfl,(by show 1≤sizeLine; decide),fun L0 hL0=>?_⟩
    have S19:=ak (o:=.lst [.int 0]) hL0
    have e19:upd G18 L0 (.lst [.int 0]) L0=some (.lst [.int 0]):=ac
    generalize upd G18 L0 _=G19 at S19 e19 ⊢
    have hao19:=S19 _ _ (k18.lst nao (S17 _ _ e16))
    refine ⟨ao,L0,_,_,rfl,rfl,hao19,e19,by rw [List.length_map]; exact Nat.le_trans (show _≤40 by simp; omega) (by decide),fun L1 hL1=>?_⟩
    have S20:=ak (o:=.lst (ms.map V.int++[.int 0])) hL1
    have e20:upd G19 L1 (.lst (ms.map V.int++[.int 0])) L1=some (.lst (ms.map V.int++[.int 0])):=ac
    generalize upd G19 L1 _=G20 at S20 e20 ⊢
    obtain ⟨jv,ej,smj⟩:∃ jv:Int,mj (ms.map V.int++[V.int 0]) 0=some (.int jv)∧jt jv:=by
     cases ms with
     | nil=>exact ⟨0,gN (xs:=[V.int 0]) (j:=0) rfl,nU (by decide) (by decide)⟩
     | cons n ms=>exact ⟨n,gN (xs:=V.int n :: (ms.map V.int++[V.int 0])) (j:=0) rfl,sms n List.mem_cons_self⟩
    have R20:=R18.same (S19.trans S20)
    refine ⟨L1,_,0,_,rfl,rfl,aO.of e20,ej,r,ao,ms,jv,rfl,nao,R20,S20 _ _ hao19,lms,sms,smj,fun y2 G21 d2 R21 S21 hd2 sm2=>?_⟩
    have k21:aD r G20 G21:=aD.but R20 S21
    have tb21:=c4 (tb18.same (S19.trans S20)) R20 S21
    refine ⟨(by show 2≤sizeLine; decide),fun z2 hz2=>?_⟩
    have S22:=ak (o:=.tup [y1,y2]) hz2
    have e22:upd G21 z2 (.tup [y1,y2]) z2=some (.tup [y1,y2]):=ac
    generalize upd G21 z2 _=G22 at S22 e22 ⊢
    refine ⟨(by show 2≤sizeLine; decide),fun lp hlp=>?_⟩
    have S23:=ak (o:=.lst [.ref z1,.ref z2]) hlp
    have e23:upd G22 lp (.lst [.ref z1,.ref z2]) lp=some (.lst [.ref z1,.ref z2]):=ac
    generalize upd G22 lp _=G23 at S23 e23 ⊢
    have S2123:=S22.trans S23
    have k1823:aD r G18 G23:=(aD.of (S19.trans S20)).trans (k21.trans (aD.of S2123))
    have k1723:=k18.trans k1823
    have k1623:aD r G16 G23:=(aD.of S17).trans k1723
    have SA23:=SA16.keep nD k1623
    have hl23:=k1623.lst nl hl16
    have hts23:=a8.keep hts16 k1623.tup
    have haf23:=k1623.tup _ _ haf16
    have hao23:=k1623.lst nao e16
    have sc23:=sc16.keep k1623
    have R23:=R21.same S2123
    have tb23:=tb21.same S2123
    have dfa:Dt r G23 (.tuple (bs.map PyData.int)) (.ref af):=y6 haf23 (bf bs)
    have doa:Dt r G23 (.list (ms.map PyData.int)) (.ref ao):=yX nao hao23 (bf ms)
    have all:∀ x∈([.ref z1,.ref z2]:List V),m3 r G23 x:=by
     intro x hx
     simp only [List.mem_cons,List.mem_nil_iff,or_false] at hx
     rcases hx with rfl | rfl
     ·exact ⟨z1,_,_,_,_,rfl,k1723.tup _ _ e17,dfa,ma lbs sbs,doa,mf lms sms⟩
     ·exact ⟨z2,_,_,_,_,rfl,S23 _ _ e22,Dt.keep k1823 _ _ hd1,sm1,Dt.keep (aD.of S2123) _ _ hd2,sm2⟩
    clear SA16 hl16 hts16 haf16 sc16 R16 tb16 e16 S16 e17 S17 hd1 sm1 hd2 sm2 k18 tb18 e19 S19 hao19 e20 S20 R20 k21 tb21 e22 S22 S23 S2123 k1823 k1723 k1623 R17 R18 S18 S21 R21
    refine ⟨lp,rfl,⟨_,aO.of e23⟩,?_⟩
    refine pA (K:=K) (a:=lp) (xs:=[.ref z1,.ref z2]) (fun j σ H'=>∃ (o9 o10:Option V),σ=[some (.ref a),some (.int (0 + (i:Int))),some (.ref r),some (.int p),some (.ref l),some (.ref s),some (.ref af),some (.ref lf),some (.ref ao),o9,o10]∧Kp G23 H'∧qG Pt H') ⟨_,_,rfl,Kp.of (au.refl _),tb23⟩ (fun j σ H' _ ⟨_,_,_,k,_⟩=>aO.of (k.lst e23)) ?_ ?_
    ·rintro j y σ H' hy ⟨o9,o10,rfl,kj,tj⟩
     obtain ⟨z,y1,y2,d1,d2,rfl,hz,a1,a2,a3,a4⟩:=(all y (List.mem_of_getElem? hy)).keep (aD.kp kj)
     refine ⟨z,_,rfl,bc.of hz,rfl,_,_,rfl,_,_,rfl,rfl,?_⟩
     refine ⟨_,rfl,_,rfl,_,rfl,_,rfl,_,rfl,s,dx,fl,dxf,D,l,r,p,zs,ys,ts,283,y1,y2,d1,d2,rfl,SA23.kp kj,due.ok,kj.lst hl23,a8.keep hts23 kj.tup,a1,a2,a3,a4,tj,fun H9 k9 t9=>⟨_,rfl,bx ?_⟩⟩
     exact ⟨_,_,rfl,kj.trans k9,t9⟩
    ·rintro σ H' ⟨o9,o10,rfl,kj,tj⟩
     refine ⟨_,rfl,_,rfl,_,rfl,_,rfl,_,rfl,l,ys,ts,rfl,kj.lst hl23,a8.keep hts23 kj.tup,h64,hP,fun J1 s1=>?_⟩
     refine ⟨_,rfl,af,_,rfl,s1 _ _ (kj.tup _ _ haf23),fun q1 J2 s2 f2=>?_⟩
     have kk2:Kp G23 J2:=kj.trans (Kp.of (s1.trans s2))
     refine ⟨_,rfl,_,rfl,l,ys,ts,rfl,kk2.lst hl23,a8.keep hts23 kk2.tup,h64,hP,fun J3 s3=>?_⟩
     have kk3:Kp G23 J3:=kk2.trans (Kp.of s3)
     refine ⟨_,rfl,ao,_,rfl,kk3.lst hao23,fun q2 J4 n4 s4 f4=>?_⟩
     have kk4:Kp G23 J4:=kk3.trans (Kp.of s4)
     obtain ⟨m1,em1,lm1,mm1⟩:=cH bs none (some (ay ts))
     obtain ⟨m2,em2,lm2,mm2⟩:=cH ms none (some (ay ts))
     rw [em1] at f2
     rw [em2] at f4
     have nq2:q2≠r:=by
      obtain ⟨la,xa,ha,_⟩:=R23
      exact (show aH J3 r from ⟨la,xa,kk3.lst ha,by assumption⟩).ne n4
     refine ⟨s,dx,fl,dxf,D,l,r,p,zs,ys,ts,283,.ref q1,.ref q2,_,_,rfl,SA23.kp kk4,due.ok,kk4.lst hl23,a8.keep hts23 kk4.tup,y6 (s4 _ _ (s3 _ _ f2)) (bf m1),ma (Nat.le_trans lm1 lbs) (fun n hn=>sbs n (mm1 n hn)),yX nq2 f4 (bf m2),mf (Nat.le_trans lm2 lms) (fun n hn=>sms n (mm2 n hn)),tj.same (s1.trans (s2.trans (s3.trans s4))),fun H9 k9 t9=>⟨_,rfl,bx ?_⟩⟩
     exact ⟨_,_,_,_,_,_,_,_,_,_,rfl,sc23.keep (r:=r) (aD.kp (kk4.trans k9)),t9⟩
  ·rintro σ H' ⟨o1,o2,o3,o4,o5,o6,o7,o8,o9,o10,rfl,_,_⟩
   exact fin H'
end
end K07
namespace Hd
open PySem PySem.W PyProof.Rows
noncomputable def oG (K:Frag)(x qual:Str)(st:Stmt)(f:Addr):Prop:=∃ (oc:Value)(od:Option Addr)(kV doc pm:Value)(an:Option Addr)(cdv ct:Value)(osl:Array (Option Value)),
 K.lookup f=some ⟨oc,od,.func (fnOf x qual (L2.cm st) (L2.bv st) (L2.aj st) .none kV doc pm an cdv ct),osl⟩∧codeIn K cdv qual=true∧keepIn K (.ref f)=true
theorem aM {K:Frag}{v:Option (Option Value)}{x qual:Str}{st:Stmt}(h:aX K v=due x qual st)(b:df K v qual=true):v=some (some (.ref (dw v)))∧oG K x qual st (dw v):=by
 unfold aX at h
 obtain ⟨fd,e,s⟩:=Option.map_eq_some_iff.mp (show (j4 K v).map xr=some _ from h)
 unfold df at b
 rw [e] at b
 rw [Bool.and_eq_true] at b
 unfold j4 at e
 split at e
 ·rename_i f
  split at e
  ·rename_i oc od fd' osl hl
   cases e
   refine ⟨rfl,oc,od,fd.kwdefaults,fd.doc,fd.pyModule,fd.annotations,fd.code,fd.closureTuple,osl,?_,b.2,b.1⟩
   show K.lookup f=_
   rw [hl]
   obtain ⟨n,q,p,bd,sc,g,c,dv,kv,dc,pm,an,cd,ct,bl⟩:=fd
   unfold xr at s
   simp only [Prod.mk.injEq] at s
   obtain ⟨rfl,rfl,rfl,rfl,rfl,rfl,rfl,rfl,rfl⟩:=s
   rfl
  ·cases e
 ·cases e
theorem oG.fn {K:Frag}{x qual:Str}{st:Stmt}{f:Addr}(d:oG K x qual st f):∃ fd,L2.Fun K x qual st f fd:=by
 obtain ⟨oc,od,kV,doc,pm,an,cdv,ct,osl,l,c,k⟩:=d
 exact ⟨_,L2.Ab l c k⟩
theorem oG.keep {K:Frag}{x qual:Str}{st:Stmt}{f:Addr}(d:oG K x qual st f):keepIn K (.ref f)=true:=by
 obtain ⟨oc,od,kV,doc,pm,an,cdv,ct,osl,l,c,k⟩:=d
 exact k
noncomputable def vY (K:Frag)(x qual:Str)(st:Stmt)(f T:Addr):Prop:=∃ (oc:Value)(od:Option Addr)(kV doc pm:Value)(an:Option Addr)(cdv ct:Value)(osl:Array (Option Value)),
 K.lookup f=some ⟨oc,od,.func (fnOf x qual (L2.cm st) (L2.bv st) (L2.aj st) (.ref T) kV doc pm an cdv ct),osl⟩∧codeIn K cdv qual=true∧keepIn K (.ref f)=true
theorem ji {K:Frag}{v:Option (Option Value)}{x qual:Str}{st:Stmt}(h:gE K v=due x qual st)(b:df K v qual=true)(d:qm K v=true):v=some (some (.ref (dw v)))∧vY K x qual st (dw v) (nG K v):=by
 unfold gE at h
 obtain ⟨fd,e,s⟩:=Option.map_eq_some_iff.mp (show (j4 K v).map (fun fd=>xr { fd with defaults:=.none })=some _ from h)
 have hd:fd.defaults = .ref (nG K v):=by
  unfold qm BH at d
  unfold nG BH
  rw [e] at d ⊢
  dsimp only at d ⊢
  cases q:fd.defaults with
  | ref a=>rfl
  | _=>rw [q] at d; cases d
 unfold df at b
 rw [e] at b
 rw [Bool.and_eq_true] at b
 generalize nG K v=T at hd
 unfold j4 at e
 split at e
 ·rename_i f
  split at e
  ·rename_i oc od fd' osl hl
   cases e
   refine ⟨rfl,oc,od,fd.kwdefaults,fd.doc,fd.pyModule,fd.annotations,fd.code,fd.closureTuple,osl,?_,b.2,b.1⟩
   show K.lookup f=_
   rw [hl]
   obtain ⟨n,q,p,bd,sc,g,c,dv,kv,dc,pm,an,cd,ct,bl⟩:=fd
   unfold xr at s
   simp only [Prod.mk.injEq] at s
   have hd:dv = .ref T:=hd
   subst hd
   obtain ⟨rfl,rfl,rfl,rfl,rfl,rfl,rfl,_,rfl⟩:=s
   rfl
  ·cases e
 ·cases e
theorem vY.fn {K:Frag}{x qual:Str}{st:Stmt}{f T:Addr}(d:vY K x qual st f T):∃ fd,L2.FunD K x qual st f fd T:=by
 obtain ⟨oc,od,kV,doc,pm,an,cdv,ct,osl,l,c,k⟩:=d
 exact ⟨_,L2.xH l c k⟩
theorem vY.keep {K:Frag}{x qual:Str}{st:Stmt}{f T:Addr}(d:vY K x qual st f T):keepIn K (.ref f)=true:=by
 obtain ⟨oc,od,kV,doc,pm,an,cdv,ct,osl,l,c,k⟩:=d
 exact k
noncomputable def Av (K:Frag)(x qual:Str)(st:Stmt)(f c:Addr):Prop:=∃ (oc:Value)(od:Option Addr)(kV doc pm:Value)(an:Option Addr)(ct:Value)(osl:Array (Option Value)),
 K.lookup f=some ⟨oc,od,.func (fnOf x qual (L2.cm st) (L2.bv st) (L2.aj st) .none kV doc pm an (.ref c) ct),osl⟩∧codeIn K (.ref c) qual=true∧keepIn K (.ref f)=true
theorem sN {K:Frag}{v:Option (Option Value)}{x qual:Str}{st:Stmt}{cc:Addr}(h:aX K v=due x qual st)(b:df K v qual=true)(d:vF K v cc=true):v=some (some (.ref (dw v)))∧Av K x qual st (dw v) cc:=by
 unfold aX at h
 obtain ⟨fd,e,s⟩:=Option.map_eq_some_iff.mp (show (j4 K v).map xr=some _ from h)
 have hd:fd.code = .ref cc:=by
  unfold vF at d
  rw [e] at d
  dsimp only at d
  cases q:fd.code with
  | ref a =>
    rw [q] at d
    have:a=cc:=by simpa using d
    rw [this]
  | _=>rw [q] at d; cases d
 unfold df at b
 rw [e] at b
 rw [Bool.and_eq_true] at b
 unfold j4 at e
 split at e
 ·rename_i f
  split at e
  ·rename_i oc od fd' osl hl
   cases e
   have b2:codeIn K fd.code qual=true:=b.2
   rw [hd] at b2
   refine ⟨rfl,oc,od,fd.kwdefaults,fd.doc,fd.pyModule,fd.annotations,fd.closureTuple,osl,?_,b2,b.1⟩
   show K.lookup f=_
   rw [hl]
   obtain ⟨n,q,p,bd,sc,g,c,dv,kv,dc,pm,an,cd,ct,bl⟩:=fd
   unfold xr at s
   simp only [Prod.mk.injEq] at s
   have hd:cd = .ref cc:=hd
   subst hd
   obtain ⟨rfl,rfl,rfl,rfl,rfl,rfl,rfl,rfl,rfl⟩:=s
   rfl
  ·cases e
 ·cases e
theorem Av.keep {K:Frag}{x qual:Str}{st:Stmt}{f c:Addr}(d:Av K x qual st f c):keepIn K (.ref f)=true:=by
 obtain ⟨oc,od,kV,doc,pm,an,ct,osl,l,c,k⟩:=d
 exact k
theorem oQ:∀ {vs:List Value}{ns:List Int},rH vs ns=true->L2.aJ (ns.map L2.V.int) vs
 | [],[],_=>.nil
 | v :: vs,n :: ns,h=>by
   unfold rH at h
   rw [Bool.and_eq_true] at h
   obtain ⟨t,rfl⟩:=iT h.1
   exact .cons ⟨t,rfl⟩ (oQ h.2)
 | [],_ :: _,h=>by cases h
 | _ :: _,[],h=>by cases h
theorem sr {K:Frag}{a:Addr}{ns:List Int}(h:v8 K a ns=true)(H:L2.Hp):L2.bc K H a (ns.map L2.V.int):=by
 unfold v8 at h
 split at h
 ·rename_i o ho
  rw [Bool.and_eq_true] at h
  obtain ⟨h1,h2⟩:=h
  split at h1
  ·rename_i T hT
   split at h2
   ·rename_i its n hd
    rw [Bool.and_eq_true] at h2
    have:T="tuple":=by simpa using h1
    subst this
    exact .inr ⟨o,its,n,ho,hT,hd,of_decide_eq_true h2.2,oQ h2.1⟩
   ·cases h2
  ·cases h1
 ·cases h
theorem rm {K:Frag}(h:vi K=true):L2.p5 K:=by
 unfold vi at h
 split at h
 ·rename_i o ho
  split at h
  ·rename_i T hT
   have:T="dict":=by simpa using h
   subst this
   exact ⟨o,ho,hT⟩
  ·cases h
 ·cases h
open L2 in
theorem ur {l:OpenLaw}{n k:Nat}{q:Program}{loose:List Str}{XP:(Str->Option Value)->Heap->Prop}{YP:World->Heap->Prop}{d:DefRec}{CX:World->CXT}{sp:Frag->Sp}{x:Str}{φ:Frag->Prop}{tabs:Frag->List (Addr × Addr)}
 (hn:l.most=some n)(hn2:n≤sizeLine)(hdf:d.params.defaults=[])(hr:Room k callerA)
 (hY:∀ (w:World)(h:Heap),YP w h->∃ K:Frag,φ K∧K.In h)
 (hT:∀ (w:World)(s₀:Shared)(mg mb:Str->Option Value)(h:Heap)(K:Frag),φ K->Ground q loose [] XP w s₀ mg mb h->K.In h->TabsAt (tabs K) h∧∀ r∈tabs K,K.lookup r.2=none)
 (F:∀ (w:World)(K:Frag)(mg:Str->Option Value)(fa:Addr)(h:Heap),φ K->K.In h->h.Ns mainGlobals mg->mg d.name=some (.ref fa) →
  ∃ fd:FuncData,(∀ (s:Shared)(u:Value),BindsTo s fd ⟨[u],[]⟩ [(x,u)])∧∀ base:Heap,K.In base->base.Ns mainGlobals mg->BaseT (tabs K) mg base->FnOk l.prog w K mg base (CX w) k fa fd [x] (sp K))
 (hsp:∀ (K:Frag)(H:Hp)(a:Addr)(ns:List Int),ns.length≤n->vP (tabs K) H->aO K H a (ns.map V.int)->sp K [.ref a] H (fun v _=>v = .bl true) fun _ _ _=>False)
 (hCX:∀ (w:World)(H:Hp)(s:Shared)(e:Value)(s':Shared),CX w [] H s (fun _ _ _=>False) e s'->False):
 WalkO q loose XP YP l.row.toRowW d [] (fun f vs=>PySem.call f vs):=by
 refine Att.pi hn hdf fun w s₀ s₁ mg mb fa o pm cd doc a vs ns G Y ho hd hcd hmg hobj hints hlen hg=>?_
 obtain ⟨K,hφ,KX⟩:=hY w _ Y
 obtain ⟨fd,hb,hF⟩:=F w K mg fa _ hφ KX G.T.g hmg
 obtain ⟨t1,t2⟩:=hT w s₀ mg mb _ K hφ G KX
 exact tV KX G.T.g G.T.b G.T.builtins G.T.nolimit hg hobj hints (Nat.le_trans hlen hn2) hr t1 t2 G.T.bmain hF hb (fun H hO hS=>hsp K H a ns hlen hO hS) fun H e s'=>hCX w H s₁ e s'
end Hd
namespace K07
open PySem L2 PySem.W Nm
open Hd (gv ga fv dw eI cx dm bp iF c5 iP cu df aX gE due aM ji sN qm nG p7 gS vL nO yS iT uK jj v8 sr vi rm vF)
section
variable {K:Frag}{f T:Addr}{fd:FuncData}{oT:Obj}{t:Tok}{n:Nat}
theorem Bh (F:FunD K "__init__" "Field.__init__" vj f fd T)(lT:K.lookup T=some oT)(dT:oT.data = .seq #[.int 0 t] n):L2.ax K fd ["self","prime"] []:=by
 obtain ⟨oc,od,kV,doc,pm,an,cdv,ct,osl,rfl,lk,hcd⟩:=F.ex
 intro s us KX hl
 cases us with
 | nil=>simp at hl
 | cons a0 r1 =>
   cases r1 with
   | nil=>simp at hl
   | cons a1 r2 =>
     cases r2 with
     | nil=>exact binds_K KX rfl lT dT rfl rfl
     | cons a r=>simp at hl
theorem zq (F:FunD K "made" "Field.made" vt f fd T)(lT:K.lookup T=some oT)(dT:oT.data = .seq #[.int 1 t] n):L2.ax K fd ["self","top","bottom"] [.int 1 t]:=by
 obtain ⟨oc,od,kV,doc,pm,an,cdv,ct,osl,rfl,lk,hcd⟩:=F.ex
 intro s us KX hl
 cases us with
 | nil=>simp at hl
 | cons a0 r1 =>
   cases r1 with
   | nil=>simp at hl
   | cons a1 r2 =>
     cases r2 with
     | nil=>exact binds_K KX rfl lT dT rfl rfl
     | cons a r=>simp at hl
theorem AH (F:FunD K "__init__" "Sum.__init__" mH f fd T)(lT:K.lookup T=some oT)(dT:oT.data = .seq #[.none] n):L2.ax K fd ["self","field","terms"] []:=by
 obtain ⟨oc,od,kV,doc,pm,an,cdv,ct,osl,rfl,lk,hcd⟩:=F.ex
 intro s us KX hl
 cases us with
 | nil=>simp at hl
 | cons a0 r1 =>
   cases r1 with
   | nil=>simp at hl
   | cons a1 r2 =>
     cases r2 with
     | nil=>simp at hl
     | cons a2 r3 =>
       cases r3 with
       | nil=>exact binds_K KX rfl lT dT rfl rfl
       | cons a r=>simp at hl
theorem yv (F:FunD K "__init__" "Sum.__init__" mH f fd T)(lT:K.lookup T=some oT)(dT:oT.data = .seq #[.none] n):L2.ax K fd ["self","field","terms"] [.none]:=by
 obtain ⟨oc,od,kV,doc,pm,an,cdv,ct,osl,rfl,lk,hcd⟩:=F.ex
 intro s us KX hl
 cases us with
 | nil=>simp at hl
 | cons a0 r1 =>
   cases r1 with
   | nil=>simp at hl
   | cons a1 r2 =>
     cases r2 with
     | nil=>exact binds_K KX rfl lT dT rfl rfl
     | cons a r=>simp at hl
end
noncomputable def vM (_:World)(h:Heap):Prop:=∃ K:Frag,qQ K=dueK∧K.In h
theorem xC (w:World)(s:Shared)(e:qQ (Hd.vq qM s.heap)=dueK):vM w s.heap:=⟨_,e,Hd.nZ _ _⟩
theorem qC (w:World)(h h':Heap)(y:vM w h)(k:∀ (b:Addr)(o:Obj),h.get? b=some o->h'.get? b=some o):vM w h':=let ⟨K,e,i⟩:=y; ⟨K,e,fun a o q=>k a o (i a o q)⟩
set_option maxHeartbeats 0 in
theorem qp {l:OpenLaw}{w:World}{K:Frag}{mg:Str->Option Value}{h:Heap}{fa:Addr}(o:qQ K=dueK)(X:K.In h)(G:h.Ns mainGlobals mg)(hfa:mg "law"=some (.ref fa)):
 ∃ fd:FuncData,(∀ (s:Shared)(v:Value),BindsTo s fd ⟨[v],[]⟩ [("_law_script",v)])∧∀ base:Heap,K.In base->base.Ns mainGlobals mg->BaseT [gs K] mg base->FnOk l.prog w K mg base (aU l.prog w) 13 fa fd ["_law_script"] (wm K (gs K).2):=by
 obtain ⟨o1,o2⟩:=Prod.mk.inj (show (j6 K,_)=(true,_) from o)
 simp only [List.cons.injEq,and_true] at o2
 obtain ⟨s0,s1,s2,s3,s4,s5,s6,s7,s8,s9,s10,s11,s12,s13,s14,s15,s16,s17,s18,s19,s20,s21,s22,s23,s24,s25,s26,s27,s28,s29,s30,s31,s32,s33,s34,s35,s36,s37,s38,s39,s40,s41,s42,s43,s44,s45,s46⟩:=o2
 unfold j6 at o1
 simp only [Bool.and_eq_true] at o1
 obtain ⟨g0,g1,g2,g3,g4,g5,g6,g7,g8,g9⟩:=o1
 unfold CA at g0
 simp only [Bool.and_eq_true] at g0
 obtain ⟨h0,h1,h2,h3,h4,h5,h6,h7,h8,h9,h10,h11,h12,h13,h14,h15⟩:=g0
 unfold Cr at g1
 simp only [Bool.and_eq_true] at g1
 obtain ⟨h16,h17,h18,h19,h20,h21,h22,h23,h24,h25,h26,h27,h28,h29,h30,h31⟩:=g1
 unfold Ct at g2
 simp only [Bool.and_eq_true] at g2
 obtain ⟨h32,h33,h34,h35,h36,h37,h38,h39,h40,h41,h42,h43,h44,h45,h46,h47⟩:=g2
 unfold Cg at g3
 simp only [Bool.and_eq_true] at g3
 obtain ⟨h48,h49,h50,h51,h52,h53,h54,h55,h56,h57,h58,h59,h60,h61,h62,h63⟩:=g3
 unfold Cp at g4
 simp only [Bool.and_eq_true] at g4
 obtain ⟨h64,h65,h66,h67,h68,h69,h70,h71,h72,h73,h74,h75,h76,h77,h78,h79⟩:=g4
 unfold Cf at g5
 simp only [Bool.and_eq_true] at g5
 obtain ⟨h80,h81,h82,h83,h84,h85,h86,h87,h88,h89,h90,h91,h92,h93,h94,h95⟩:=g5
 unfold BQ at g6
 simp only [Bool.and_eq_true] at g6
 obtain ⟨h96,h97,h98,h99,h100,h101,h102,h103,h104,h105,h106,h107,h108,h109,h110,h111⟩:=g6
 unfold BU at g7
 simp only [Bool.and_eq_true] at g7
 obtain ⟨h112,h113,h114,h115,h116,h117,h118,h119,h120,h121,h122,h123,h124,h125,h126,h127⟩:=g7
 unfold Ci at g8
 simp only [Bool.and_eq_true] at g8
 obtain ⟨h128,h129,h130,h131,h132,h133,h134,h135,h136,h137,h138,h139,h140,h141,h142,h143⟩:=g8
 unfold B6 at g9
 simp only [Bool.and_eq_true] at g9
 obtain ⟨h144,h145⟩:=g9
 have m:=fun {n:Str}{v:Value}(e:nsIn K mainGlobals n=some (some v))=>mg_of X G e
 have m0:=fun {n:Str}(e:nsIn K mainGlobals n=some none)=>mg_none_of X G e
 have m_isinstance:=m0 (bp h0)
 have m_int:=m0 (bp h1)
 have m_bool:=m0 (bp h2)
 have m_ValueError:=m0 (bp h3)
 have m_abs:=m0 (bp h4)
 have m_len:=m0 (bp h5)
 have m_tuple:=m0 (bp h6)
 have m_all:=m0 (bp h7)
 have m_zip:=m0 (bp h8)
 have m_list:=m0 (bp h9)
 have m_enumerate:=m0 (bp h10)
 have m_sorted:=m0 (bp h11)
 have m_max:=m0 (bp h12)
 have m_min:=m0 (bp h13)
 have m_set:=m0 (bp h14)
 have m_range:=m0 (bp h15)
 have m_repr:=m0 (bp h16)
 have r_Sum:=m (cx h17)
 have r_Field:=m (cx h18)
 have r_FalseError:=m (cx h19)
 have r_NoFilling:=m (cx h20)
 have r_NoOrder:=m (cx h21)
 have r_NoSums:=m (cx h22)
 have r_NoField:=m (cx h23)
 have r_NoNumber:=m (cx h24)
 have r_PRIMES:=m (cx h25)
 obtain ⟨t_FRACTIONS,q_FRACTIONS⟩:=jj h26
 have g_FRACTIONS:=m q_FRACTIONS
 obtain ⟨t_MOST_PLACES,q_MOST_PLACES⟩:=jj h27
 have g_MOST_PLACES:=m q_MOST_PLACES
 obtain ⟨e_a0,d_a0⟩:=aM s0 h28
 have mg_a0:=m e_a0
 have k_a0:=d_a0.keep
 obtain ⟨fd_a0,F_a0⟩:=d_a0.fn
 have b_a0:=F_a0.binds (ps:=["thing"]) fun _ _ _ _ _ _ us hl=>match us,hl with | [_],_=>rfl
 obtain ⟨e_a1,d_a1⟩:=aM s1 h29
 have mg_a1:=m e_a1
 have k_a1:=d_a1.keep
 obtain ⟨fd_a1,F_a1⟩:=d_a1.fn
 have b_a1:=F_a1.binds (ps:=["thing"]) fun _ _ _ _ _ _ us hl=>match us,hl with | [_],_=>rfl
 obtain ⟨e_a2,d_a2⟩:=aM s2 h30
 have mg_a2:=m e_a2
 have k_a2:=d_a2.keep
 obtain ⟨fd_a2,F_a2⟩:=d_a2.fn
 have b_a2:=F_a2.binds (ps:=["thing"]) fun _ _ _ _ _ _ us hl=>match us,hl with | [_],_=>rfl
 obtain ⟨e_a3,d_a3⟩:=aM s3 h31
 have mg_a3:=m e_a3
 have k_a3:=d_a3.keep
 obtain ⟨fd_a3,F_a3⟩:=d_a3.fn
 have b_a3:=F_a3.binds (ps:=["thing"]) fun _ _ _ _ _ _ us hl=>match us,hl with | [_],_=>rfl
 obtain ⟨e_a4,d_a4⟩:=aM s4 h32
 have mg_a4:=m e_a4
 have k_a4:=d_a4.keep
 obtain ⟨fd_a4,F_a4⟩:=d_a4.fn
 have b_a4:=F_a4.binds (ps:=["thing"]) fun _ _ _ _ _ _ us hl=>match us,hl with | [_],_=>rfl
 obtain ⟨e_a5,d_a5⟩:=aM s5 h33
 have mg_a5:=m e_a5
 have k_a5:=d_a5.keep
 obtain ⟨fd_a5,F_a5⟩:=d_a5.fn
 have b_a5:=F_a5.binds (ps:=["field","thing"]) fun _ _ _ _ _ _ us hl=>match us,hl with | [_,_],_=>rfl
 obtain ⟨e_a6,d_a6⟩:=aM s6 h34
 have mg_a6:=m e_a6
 have k_a6:=d_a6.keep
 obtain ⟨fd_a6,F_a6⟩:=d_a6.fn
 have b_a6:=F_a6.binds (ps:=["field","terms"]) fun _ _ _ _ _ _ us hl=>match us,hl with | [_,_],_=>rfl
 obtain ⟨e_a7,d_a7⟩:=aM s7 h35
 have mg_a7:=m e_a7
 have k_a7:=d_a7.keep
 obtain ⟨fd_a7,F_a7⟩:=d_a7.fn
 have b_a7:=F_a7.binds (ps:=["term"]) fun _ _ _ _ _ _ us hl=>match us,hl with | [_],_=>rfl
 obtain ⟨e_a8,d_a8⟩:=aM s8 h36
 have mg_a8:=m e_a8
 have k_a8:=d_a8.keep
 obtain ⟨fd_a8,F_a8⟩:=d_a8.fn
 have b_a8:=F_a8.binds (ps:=["field","terms"]) fun _ _ _ _ _ _ us hl=>match us,hl with | [_,_],_=>rfl
 obtain ⟨e_a9,d_a9⟩:=aM s9 h37
 have mg_a9:=m e_a9
 have k_a9:=d_a9.keep
 obtain ⟨fd_a9,F_a9⟩:=d_a9.fn
 have b_a9:=F_a9.binds (ps:=["field","terms"]) fun _ _ _ _ _ _ us hl=>match us,hl with | [_,_],_=>rfl
 obtain ⟨e_a10,d_a10⟩:=aM s10 h38
 have mg_a10:=m e_a10
 have k_a10:=d_a10.keep
 obtain ⟨fd_a10,F_a10⟩:=d_a10.fn
 have b_a10:=F_a10.binds (ps:=["one","other"]) fun _ _ _ _ _ _ us hl=>match us,hl with | [_,_],_=>rfl
 obtain ⟨e_a11,d_a11⟩:=aM s11 h39
 have mg_a11:=m e_a11
 have k_a11:=d_a11.keep
 obtain ⟨fd_a11,F_a11⟩:=d_a11.fn
 have b_a11:=F_a11.binds (ps:=["top","bottom"]) fun _ _ _ _ _ _ us hl=>match us,hl with | [_,_],_=>rfl
 obtain ⟨e_a12,d_a12⟩:=aM s12 h40
 have mg_a12:=m e_a12
 have k_a12:=d_a12.keep
 obtain ⟨fd_a12,F_a12⟩:=d_a12.fn
 have b_a12:=F_a12.binds (ps:=["number","prime"]) fun _ _ _ _ _ _ us hl=>match us,hl with | [_,_],_=>rfl
 obtain ⟨e_a13,d_a13⟩:=aM s13 h41
 have mg_a13:=m e_a13
 have k_a13:=d_a13.keep
 obtain ⟨fd_a13,F_a13⟩:=d_a13.fn
 have b_a13:=F_a13.binds (ps:=["_law_script","_law_k"]) fun _ _ _ _ _ _ us hl=>match us,hl with | [_,_],_=>rfl
 obtain ⟨e_a14,d_a14⟩:=aM s14 h42
 have mg_a14:=m e_a14
 have k_a14:=d_a14.keep
 obtain ⟨fd_a14,F_a14⟩:=d_a14.fn
 have b_a14:=F_a14.binds (ps:=["_law_room_here","_law_many"]) fun _ _ _ _ _ _ us hl=>match us,hl with | [_,_],_=>rfl
 obtain ⟨e_a15,d_a15⟩:=aM s15 h43
 have mg_a15:=m e_a15
 have k_a15:=d_a15.keep
 obtain ⟨fd_a15,F_a15⟩:=d_a15.fn
 have b_a15:=F_a15.binds (ps:=["_law_top","_law_bottom"]) fun _ _ _ _ _ _ us hl=>match us,hl with | [_,_],_=>rfl
 obtain ⟨e_a16,d_a16⟩:=aM s16 h44
 have mg_a16:=m e_a16
 have k_a16:=d_a16.keep
 obtain ⟨fd_a16,F_a16⟩:=d_a16.fn
 have b_a16:=F_a16.binds (ps:=["_law_thing"]) fun _ _ _ _ _ _ us hl=>match us,hl with | [_],_=>rfl
 obtain ⟨e_a17,d_a17⟩:=aM s17 h45
 have mg_a17:=m e_a17
 have k_a17:=d_a17.keep
 obtain ⟨fd_a17,F_a17⟩:=d_a17.fn
 have b_a17:=F_a17.binds (ps:=["_law_prime_here","_law_top","_law_bottom"]) fun _ _ _ _ _ _ us hl=>match us,hl with | [_,_,_],_=>rfl
 obtain ⟨e_a18,d_a18⟩:=aM s18 h46
 have mg_a18:=m e_a18
 have k_a18:=d_a18.keep
 obtain ⟨fd_a18,F_a18⟩:=d_a18.fn
 have b_a18:=F_a18.binds (ps:=["_law_prime_here","_law_one","_law_other"]) fun _ _ _ _ _ _ us hl=>match us,hl with | [_,_,_],_=>rfl
 obtain ⟨e_a19,d_a19⟩:=aM s19 h47
 have mg_a19:=m e_a19
 have k_a19:=d_a19.keep
 obtain ⟨fd_a19,F_a19⟩:=d_a19.fn
 have b_a19:=F_a19.binds (ps:=["_law_room_here"]) fun _ _ _ _ _ _ us hl=>match us,hl with | [_],_=>rfl
 obtain ⟨e_a20,d_a20⟩:=aM s20 h48
 have mg_a20:=m e_a20
 have k_a20:=d_a20.keep
 obtain ⟨fd_a20,F_a20⟩:=d_a20.fn
 have b_a20:=F_a20.binds (ps:=["_law_room_here","_law_prime_here"]) fun _ _ _ _ _ _ us hl=>match us,hl with | [_,_],_=>rfl
 obtain ⟨e_a21,d_a21⟩:=aM s21 h49
 have mg_a21:=m e_a21
 have k_a21:=d_a21.keep
 obtain ⟨fd_a21,F_a21⟩:=d_a21.fn
 have b_a21:=F_a21.binds (ps:=["_law_room_here","_law_many","_law_share"]) fun _ _ _ _ _ _ us hl=>match us,hl with | [_,_,_],_=>rfl
 obtain ⟨e_a22,d_a22⟩:=aM s22 h50
 have mg_a22:=m e_a22
 have k_a22:=d_a22.keep
 obtain ⟨fd_a22,F_a22⟩:=d_a22.fn
 have b_a22:=F_a22.binds (ps:=["_law_room_here","_law_prime_here","_law_many","_law_most"]) fun _ _ _ _ _ _ us hl=>match us,hl with | [_,_,_,_],_=>rfl
 obtain ⟨e_a23,d_a23⟩:=aM s23 h51
 have mg_a23:=m e_a23
 have k_a23:=d_a23.keep
 obtain ⟨fd_a23,F_a23⟩:=d_a23.fn
 have b_a23:=F_a23.binds (ps:=["_law_prime_here","_law_terms_here"]) fun _ _ _ _ _ _ us hl=>match us,hl with | [_,_],_=>rfl
 obtain ⟨e_a24,d_a24⟩:=aM s24 h52
 have mg_a24:=m e_a24
 have k_a24:=d_a24.keep
 obtain ⟨fd_a24,F_a24⟩:=d_a24.fn
 have b_a24:=F_a24.binds (ps:=["_law_prime_here","_law_terms_here","_law_filling_here"]) fun _ _ _ _ _ _ us hl=>match us,hl with | [_,_,_],_=>rfl
 obtain ⟨e_a25,d_a25⟩:=aM s25 h53
 have mg_a25:=m e_a25
 have k_a25:=d_a25.keep
 obtain ⟨fd_a25,F_a25⟩:=d_a25.fn
 have b_a25:=F_a25.binds (ps:=["_law_room_here","_law_many"]) fun _ _ _ _ _ _ us hl=>match us,hl with | [_,_],_=>rfl
 obtain ⟨e_a26,d_a26⟩:=aM s26 h54
 have mg_a26:=m e_a26
 have k_a26:=d_a26.keep
 obtain ⟨fd_a26,F_a26⟩:=d_a26.fn
 have b_a26:=F_a26.binds (ps:=["_law_call"]) fun _ _ _ _ _ _ us hl=>match us,hl with | [_],_=>rfl
 obtain ⟨e_a27,d_a27⟩:=aM s27 h55
 have mg_a27:=m e_a27
 have k_a27:=d_a27.keep
 obtain ⟨fd_a27,F_a27⟩:=d_a27.fn
 have b_a27:=F_a27.binds (ps:=["_law_terms_here"]) fun _ _ _ _ _ _ us hl=>match us,hl with | [_],_=>rfl
 obtain ⟨e_a28,d_a28⟩:=aM s28 h56
 have mg_a28:=m e_a28
 have k_a28:=d_a28.keep
 obtain ⟨fd_a28,F_a28⟩:=d_a28.fn
 have b_a28:=F_a28.binds (ps:=["_law_room_here","_law_row","_law_spare"]) fun _ _ _ _ _ _ us hl=>match us,hl with | [_,_,_],_=>rfl
 obtain ⟨e_a29,d_a29⟩:=aM s29 h57
 have mg_a29:=m e_a29
 have k_a29:=d_a29.keep
 obtain ⟨fd_a29,F_a29⟩:=d_a29.fn
 have b_a29:=F_a29.binds (ps:=["_law_row","_law_thing"]) fun _ _ _ _ _ _ us hl=>match us,hl with | [_,_],_=>rfl
 obtain ⟨e_a30,d_a30⟩:=aM s30 h58
 have mg_a30:=m e_a30
 have k_a30:=d_a30.keep
 obtain ⟨fd_a30,F_a30⟩:=d_a30.fn
 have b_a30:=F_a30.binds (ps:=["_law_thing","_law_reach_here"]) fun _ _ _ _ _ _ us hl=>match us,hl with | [_,_],_=>rfl
 obtain ⟨e_a31,d_a31⟩:=aM s31 h59
 have mg_a31:=m e_a31
 have k_a31:=d_a31.keep
 obtain ⟨fd_a31,F_a31⟩:=d_a31.fn
 have b_a31:=F_a31.binds (ps:=["_law_thing","_law_reach_here"]) fun _ _ _ _ _ _ us hl=>match us,hl with | [_,_],_=>rfl
 obtain ⟨e_a32,d_a32⟩:=aM s32 h60
 have mg_a32:=m e_a32
 have e_fa:=hfa.symm.trans mg_a32
 cases e_fa
 have k_a32:=d_a32.keep
 obtain ⟨fd_a32,F_a32⟩:=d_a32.fn
 have b_a32:=F_a32.binds (ps:=["_law_script"]) fun _ _ _ _ _ _ us hl=>match us,hl with | [_],_=>rfl
 obtain ⟨e_sf,d_sf⟩:=aM s33 h61
 have i_sf:=h62
 have M_sf:L2.Meth K _ "field" _:=⟨e_sf,h62,d_sf.keep⟩
 obtain ⟨fd_sf,F_sf⟩:=d_sf.fn
 have b_sf:=F_sf.binds (ps:=["self"]) fun _ _ _ _ _ _ us hl=>match us,hl with | [_],_=>rfl
 obtain ⟨e_st,d_st⟩:=aM s34 h63
 have i_st:=h64
 have M_st:L2.Meth K _ "terms" _:=⟨e_st,h64,d_st.keep⟩
 obtain ⟨fd_st,F_st⟩:=d_st.fn
 have b_st:=F_st.binds (ps:=["self"]) fun _ _ _ _ _ _ us hl=>match us,hl with | [_],_=>rfl
 obtain ⟨e_sr,d_sr⟩:=aM s35 h65
 have i_sr:=h66
 have M_sr:L2.Meth K _ "reach" _:=⟨e_sr,h66,d_sr.keep⟩
 obtain ⟨fd_sr,F_sr⟩:=d_sr.fn
 have b_sr:=F_sr.binds (ps:=["self"]) fun _ _ _ _ _ _ us hl=>match us,hl with | [_],_=>rfl
 obtain ⟨e_wo,d_wo⟩:=aM s36 h67
 have i_wo:=h68
 have M_wo:L2.Meth K _ "worth" _:=⟨e_wo,h68,d_wo.keep⟩
 obtain ⟨fd_wo,F_wo⟩:=d_wo.fn
 have b_wo:=F_wo.binds (ps:=["self","filling"]) fun _ _ _ _ _ _ us hl=>match us,hl with | [_,_],_=>rfl
 obtain ⟨e_rn,d_rn⟩:=aM s37 h69
 have i_rn:=h70
 have M_rn:L2.Meth K _ "renamed" _:=⟨e_rn,h70,d_rn.keep⟩
 obtain ⟨fd_rn,F_rn⟩:=d_rn.fn
 have b_rn:=F_rn.binds (ps:=["self","order"]) fun _ _ _ _ _ _ us hl=>match us,hl with | [_,_],_=>rfl
 obtain ⟨e_eq,d_eq⟩:=aM s38 h71
 have i_eq:=h72
 have M_eq:L2.Meth K _ "__eq__" _:=⟨e_eq,h72,d_eq.keep⟩
 obtain ⟨fd_eq,F_eq⟩:=d_eq.fn
 have b_eq:=F_eq.binds (ps:=["self","other"]) fun _ _ _ _ _ _ us hl=>match us,hl with | [_,_],_=>rfl
 obtain ⟨e_qu,d_qu⟩:=aM s39 h73
 have i_qu:=h74
 have M_qu:L2.Meth K _ "quotient" _:=⟨e_qu,h74,d_qu.keep⟩
 obtain ⟨fd_qu,F_qu⟩:=d_qu.fn
 have b_qu:=F_qu.binds (ps:=["self","top","bottom"]) fun _ _ _ _ _ _ us hl=>match us,hl with | [_,_,_],_=>rfl
 obtain ⟨e_pl,d_pl⟩:=aM s40 h75
 have i_pl:=h76
 have M_pl:L2.Meth K _ "plus" _:=⟨e_pl,h76,d_pl.keep⟩
 obtain ⟨fd_pl,F_pl⟩:=d_pl.fn
 have b_pl:=F_pl.binds (ps:=["self","one","other"]) fun _ _ _ _ _ _ us hl=>match us,hl with | [_,_,_],_=>rfl
 obtain ⟨e_se,d_se⟩:=aM s41 h77
 have i_se:=h78
 have M_se:L2.Meth K _ "settled" _:=⟨e_se,h78,d_se.keep⟩
 obtain ⟨fd_se,F_se⟩:=d_se.fn
 have b_se:=F_se.binds (ps:=["self","top","bottom"]) fun _ _ _ _ _ _ us hl=>match us,hl with | [_,_,_],_=>rfl
 obtain ⟨e_nu,d_nu⟩:=aM s42 h79
 have i_nu:=h80
 have M_nu:L2.Meth K _ "is_number" _:=⟨e_nu,h80,d_nu.keep⟩
 obtain ⟨fd_nu,F_nu⟩:=d_nu.fn
 have b_nu:=F_nu.binds (ps:=["self","thing"]) fun _ _ _ _ _ _ us hl=>match us,hl with | [_,_],_=>rfl
 obtain ⟨e_SI,d_SI⟩:=ji s43 h81 h83
 have i_SI:=h82
 have M_SI:L2.Meth K _ "__init__" _:=⟨e_SI,h82,d_SI.keep⟩
 obtain ⟨fd_SI,F_SI⟩:=d_SI.fn
 obtain ⟨o_SI,v_SI,n_SI,lT_SI,dT_SI,pv_SI⟩:=gS h84
 obtain ⟨e_FI,d_FI⟩:=ji s44 h85 h87
 have i_FI:=h86
 have M_FI:L2.Meth K _ "__init__" _:=⟨e_FI,h86,d_FI.keep⟩
 obtain ⟨fd_FI,F_FI⟩:=d_FI.fn
 obtain ⟨o_FI,v_FI,n_FI,lT_FI,dT_FI,pv_FI⟩:=gS h88
 obtain ⟨e_ma,d_ma⟩:=ji s45 h89 h91
 have i_ma:=h90
 have M_ma:L2.Meth K _ "made" _:=⟨e_ma,h90,d_ma.keep⟩
 obtain ⟨fd_ma,F_ma⟩:=d_ma.fn
 obtain ⟨o_ma,v_ma,n_ma,lT_ma,dT_ma,pv_ma⟩:=gS h92
 have nv_SI:=nO pv_SI
 subst nv_SI
 obtain ⟨t_FI,nv_FI⟩:=iT pv_FI
 subst nv_FI
 obtain ⟨t_ma,nv_ma⟩:=iT pv_ma
 subst nv_ma
 have bSI:=AH F_SI lT_SI dT_SI
 have bSI1:=yv F_SI lT_SI dT_SI
 have bFI:=Bh F_FI lT_FI dT_FI
 have bma1:=zq F_ma lT_ma dT_ma
 have N:Nones mg:=⟨m_isinstance,m_int,m_bool⟩
 have cF:FieldK K mg (ga K "Field"):=⟨⟨h93,h94,h95,c5 h96⟩,bp h97,r_Field,(Bool.and_eq_true_iff.mpr h98),c5 h99,c5 h100,cu h101,cu h102⟩
 have c:SumK K mg (ga K "Sum"):=⟨⟨h103,h104,h105,c5 h106⟩,bp h107,bp h108,r_Sum⟩
 have hP:=sr h109
 have RF:Refs K mg _ _ _ _:=⟨r_FalseError,r_NoFilling,r_NoOrder,r_NoSums,m_ValueError,⟨h110,c5 h111,bp h112,c5 h113,cu h114,cu h115⟩,⟨h116,c5 h117,bp h118,c5 h119,cu h120,cu h121⟩,cu h122,cu h123,cu h124,cu h125,cu h126,cu h127,cu h128,cu h129,cu h130,cu h131⟩
 obtain ⟨e_A,d_A⟩:=sN s46 h138 h139
 have k_A:=d_A.keep
 obtain ⟨oc_A,od_A,kV_A,doc_A,pm_A,an_A,ct_A,osl_A,l_A,c_A,_⟩:=d_A
 refine ⟨fd_a32,fun s v=>?_,fun base _ _ BT=>?_⟩
 ·obtain ⟨oc,od,kV,doc,pm,an,cdv,ct,osl,rfl,lk,hcd⟩:=F_a32.ex
  exact .of_eq rfl
 have G_a0:=vK (P:=l.prog) (w:=w) (base:=base) F_a0 N
 have G_a16:=uM (P:=l.prog) (w:=w) (base:=base) F_a16 N
 have G_a10:=zH (P:=l.prog) (w:=w) (base:=base) F_a10 m_abs
 have G_a11:=uO (P:=l.prog) (w:=w) (base:=base) F_a11 G_a10 b_a10 mg_a10 k_a10
 have G_a12:=qR (P:=l.prog) (w:=w) (base:=base) (mg:=mg) F_a12
 have G_qu:=yM (P:=l.prog) (w:=w) (base:=base) F_qu cF g_FRACTIONS r_NoNumber h135 G_a11 b_a11 mg_a11 k_a11 G_a12 b_a12 mg_a12 k_a12
 have G_se:=qH (P:=l.prog) (w:=w) (base:=base) F_se cF g_FRACTIONS G_a11 b_a11 mg_a11 k_a11
 have G_pl:=yD (P:=l.prog) (w:=w) (base:=base) F_pl cF G_se b_se M_se
 have G_FI:=xO (P:=l.prog) (w:=w) (base:=base) F_FI cF G_a0 b_a0 mg_a0 k_a0 g_FRACTIONS r_PRIMES hP r_NoField h134
 have G_ma:=ya (P:=l.prog) (w:=w) (base:=base) F_ma cF r_NoNumber h135 G_qu b_qu M_qu G_a0 b_a0 mg_a0 k_a0
 have G_nu:=pz (P:=l.prog) (w:=w) (base:=base) F_nu cF g_FRACTIONS N m_tuple m_len G_a10 b_a10 mg_a10 k_a10 G_a0 b_a0 mg_a0 k_a0
 have G_eq:=AM (P:=l.prog) (w:=w) (base:=base) F_eq cF N
 have G_a1:=wp (P:=l.prog) (w:=w) (base:=base) F_a1 g_MOST_PLACES G_a0 b_a0 mg_a0 k_a0
 have G_a2:=pK (P:=l.prog) (w:=w) (base:=base) F_a2 m_isinstance m_tuple m_all m_zip G_a1 b_a1 mg_a1 k_a1
 have G_a5:=yP (P:=l.prog) (w:=w) (base:=base) F_a5 cF m_isinstance m_tuple m_len G_a2 b_a2 mg_a2 k_a2 G_nu b_nu M_nu
 have G_a7:=pM (P:=l.prog) (w:=w) (base:=base) F_a7 m_len
 have G_a6:=pS (P:=l.prog) (w:=w) (base:=base) F_a6 m_isinstance m_list m_enumerate G_a5 b_a5 mg_a5 k_a5
 have G_a8:=yL (P:=l.prog) (w:=w) (base:=base) F_a8 cF m_sorted G_pl b_pl M_pl G_a7 b_a7 mg_a7
 have G_SI:=wS (P:=l.prog) (w:=w) (base:=base) F_SI c G_a8 b_a8 mg_a8 k_a8 G_a6 b_a6 mg_a6 k_a6
 have MkS:L2.Mk K _ _:=⟨h142,e_SI,i_SI,h143⟩
 have MkF:L2.Mk K _ _:=⟨h144,e_FI,i_FI,h145⟩
 have G_a9:=v6 (P:=l.prog) (w:=w) (base:=base) F_a9 c MkS G_SI bSI1 G_a8 b_a8 mg_a8 k_a8
 have G_sf:=tK (P:=l.prog) (w:=w) (base:=base) (CF:=ga K "Field") F_sf c
 have G_st:=uU (P:=l.prog) (w:=w) (base:=base) (CF:=ga K "Field") F_st c m_list
 have G_sr:=wb (P:=l.prog) (w:=w) (base:=base) F_sr c m_max
 have G_a4:=yw (P:=l.prog) (w:=w) (base:=base) F_a4 m_isinstance m_tuple m_all G_a0 b_a0 mg_a0 k_a0
 have G_a3:=xk (P:=l.prog) (w:=w) (base:=base) F_a3 m_isinstance m_list m_all m_len m_set G_a1 b_a1 mg_a1 k_a1
 have G_wo:=v4 (P:=l.prog) (w:=w) (base:=base) F_wo c cF m_len m_all G_a4 b_a4 mg_a4 k_a4 G_sr b_sr M_sr G_ma bma1 M_ma G_pl b_pl M_pl r_NoFilling h132
 have G_rn:=qk (P:=l.prog) (w:=w) (base:=base) F_rn c m_len m_tuple m_sorted G_a3 b_a3 mg_a3 k_a3 G_sr b_sr M_sr G_a9 b_a9 mg_a9 k_a9 r_NoOrder h133
 have G_a13:=xx (P:=l.prog) (w:=w) (base:=base) F_a13 m_len
 have G_a14:=yp (P:=l.prog) (w:=w) (base:=base) (mg:=mg) F_a14
 have G_a15:=xD (P:=l.prog) (w:=w) (base:=base) F_a15 m_abs m_int
 have G_a17:=xQ (P:=l.prog) (w:=w) (base:=base) F_a17 G_a15 b_a15 mg_a15 k_a15
 have G_a18:=wE (P:=l.prog) (w:=w) (base:=base) F_a18 G_a17 b_a17 mg_a17 k_a17
 have G_a19:=tX (P:=l.prog) (w:=w) (base:=base) F_a19 G_a14 b_a14 mg_a14 k_a14
 have G_a20:=tZ (P:=l.prog) (w:=w) (base:=base) F_a20 G_a14 b_a14 mg_a14 k_a14 G_a15 b_a15 mg_a15 k_a15
 have G_a21:=wA (P:=l.prog) (w:=w) (base:=base) F_a21 m_tuple m_range G_a14 b_a14 mg_a14 k_a14
 have G_a22:=uk (P:=l.prog) (w:=w) (base:=base) F_a22 m_range G_a14 b_a14 mg_a14 k_a14 G_a21 b_a21 mg_a21 k_a21 G_a20 b_a20 mg_a20 k_a20
 have G_a23:=wJ (P:=l.prog) (w:=w) (base:=base) F_a23 m_sorted m_len G_a18 b_a18 mg_a18 k_a18
 have G_a24:=uq (P:=l.prog) (w:=w) (base:=base) F_a24 G_a18 b_a18 mg_a18 k_a18
 have G_a25:=vg (P:=l.prog) (w:=w) (base:=base) F_a25 m_tuple m_range G_a14 b_a14 mg_a14 k_a14
 have G_a26:=xX (P:=l.prog) (w:=w) (base:=base) (kk:=10) F_a26 RF N
 have G_a27:=tQ (P:=l.prog) (w:=w) (base:=base) F_a27 m_max
 have G_a30:=yd (P:=l.prog) (w:=w) (base:=base) F_a30 m_isinstance m_tuple m_len G_a16 b_a16 mg_a16 k_a16
 have G_a31:=xK (P:=l.prog) (w:=w) (base:=base) F_a31 m_isinstance m_list m_len m_set G_a16 b_a16 mg_a16 k_a16
 have G_likeT:=vH (P:=l.prog) (w:=w) (base:=base) F_a29 m_isinstance m_tuple
 have G_likeL:=wL (P:=l.prog) (w:=w) (base:=base) F_a29 m_isinstance m_tuple
 have G_oddT:=x8 (P:=l.prog) (w:=w) (base:=base) F_a28 m_max m_len m_list m_tuple G_a14 b_a14 mg_a14 k_a14 G_likeT b_a29 mg_a29 k_a29
 have G_oddL:=yi (P:=l.prog) (w:=w) (base:=base) F_a28 m_max m_len m_list m_tuple G_a14 b_a14 mg_a14 k_a14 G_likeL b_a29 mg_a29 k_a29
 have TA:AllA l.prog w K mg base _ _ _ _ (gs K).1 (gs K).2:={ c:=c,cF:=cF,reach:=⟨_,_,G_a27,b_a27,mg_a27,k_a27⟩,kind:=⟨_,_,G_a26,b_a26,mg_a26,k_a26⟩,isF:=⟨_,_,G_a30,b_a30,mg_a30,k_a30⟩,isO:=⟨_,_,G_a31,b_a31,mg_a31,k_a31⟩,lw:=⟨_,_,G_a24,b_a24,mg_a24,k_a24⟩,lg:=⟨_,_,G_a23,b_a23,mg_a23,k_a23⟩,wo:=⟨_,_,G_wo,b_wo,M_wo⟩,rn:=⟨_,_,G_rn,b_rn,M_rn⟩,sf:=⟨_,_,G_sf,b_sf,M_sf⟩,st:=⟨_,_,G_st,b_st,M_st⟩,eq:=⟨_,_,G_eq,b_eq,e_eq,i_eq⟩,ne:=c5 h136,sys:=rm h137,repr:=m_repr,int:=m_int,tuple:=m_tuple,sorted:=m_sorted,hd:=BT.hd _ (List.mem_singleton.mpr rfl),bm:=BT.bm }
 have bA:L2.ax K (fnOf "_law_asked" "_law_asked" (cm ce) (bv ce) (aj ce) .none kV_A doc_A pm_A an_A (.ref (gs K).1) ct_A) ["_law_one","_law_prime_here","_law_due","_law_thing","_law_order"] []:=.all fun us hl=>match us,hl with | [_,_,_,_,_],_=>rfl
 have W:AllW l.prog w K mg base _ _ _ (gs K).2 _ _ _ _:={ c:=c,cF:=cF,MS:=MkS,SI:=G_SI,bSI:=bSI,MF:=MkF,FI:=G_FI,bFI:=bFI,room:=⟨_,_,G_a13,b_a13,mg_a13,k_a13⟩,prime:=⟨_,_,G_a19,b_a19,mg_a19,k_a19⟩,gather:=⟨_,_,G_a23,b_a23,mg_a23,k_a23⟩,terms:=⟨_,_,G_a22,b_a22,mg_a22,k_a22⟩,take:=⟨_,_,G_a14,b_a14,mg_a14,k_a14⟩,fill:=⟨_,_,G_a25,b_a25,mg_a25,k_a25⟩,reach:=⟨_,_,G_a27,b_a27,mg_a27,k_a27⟩,odd:=⟨_,_,G_oddT,G_oddL,b_a28,mg_a28,k_a28⟩,asked:=⟨_,_,wK l_A c_A TA,bA,m e_A,k_A⟩,m_max:=m_max,m_min:=m_min,m_len:=m_len,m_range:=m_range,m_list:=m_list }
 exact zz F_a32 W
theorem uf {K:Frag}(o:qQ K=dueK):(tabIn K "_law_asked").isSome=true∧(K.lookup (gs K).2).isNone=true:=by
 obtain ⟨o1,_⟩:=Prod.mk.inj (show (j6 K,_)=(true,_) from o)
 unfold j6 at o1
 simp only [Bool.and_eq_true] at o1
 obtain ⟨g0,g1,g2,g3,g4,g5,g6,g7,g8,g9⟩:=o1
 unfold CA at g0
 simp only [Bool.and_eq_true] at g0
 obtain ⟨h0,h1,h2,h3,h4,h5,h6,h7,h8,h9,h10,h11,h12,h13,h14,h15⟩:=g0
 unfold Cr at g1
 simp only [Bool.and_eq_true] at g1
 obtain ⟨h16,h17,h18,h19,h20,h21,h22,h23,h24,h25,h26,h27,h28,h29,h30,h31⟩:=g1
 unfold Ct at g2
 simp only [Bool.and_eq_true] at g2
 obtain ⟨h32,h33,h34,h35,h36,h37,h38,h39,h40,h41,h42,h43,h44,h45,h46,h47⟩:=g2
 unfold Cg at g3
 simp only [Bool.and_eq_true] at g3
 obtain ⟨h48,h49,h50,h51,h52,h53,h54,h55,h56,h57,h58,h59,h60,h61,h62,h63⟩:=g3
 unfold Cp at g4
 simp only [Bool.and_eq_true] at g4
 obtain ⟨h64,h65,h66,h67,h68,h69,h70,h71,h72,h73,h74,h75,h76,h77,h78,h79⟩:=g4
 unfold Cf at g5
 simp only [Bool.and_eq_true] at g5
 obtain ⟨h80,h81,h82,h83,h84,h85,h86,h87,h88,h89,h90,h91,h92,h93,h94,h95⟩:=g5
 unfold BQ at g6
 simp only [Bool.and_eq_true] at g6
 obtain ⟨h96,h97,h98,h99,h100,h101,h102,h103,h104,h105,h106,h107,h108,h109,h110,h111⟩:=g6
 unfold BU at g7
 simp only [Bool.and_eq_true] at g7
 obtain ⟨h112,h113,h114,h115,h116,h117,h118,h119,h120,h121,h122,h123,h124,h125,h126,h127⟩:=g7
 unfold Ci at g8
 simp only [Bool.and_eq_true] at g8
 obtain ⟨h128,h129,h130,h131,h132,h133,h134,h135,h136,h137,h138,h139,h140,h141,h142,h143⟩:=g8
 unfold B6 at g9
 simp only [Bool.and_eq_true] at g9
 obtain ⟨h144,h145⟩:=g9
 exact ⟨h140,h141⟩
theorem Cq {l:OpenLaw}{q:Program}{loose:List Str}{XP:(Str->Option Value)->Heap->Prop}{d:DefRec}(hn:l.most=some 63)(hdf:d.params.defaults=[])(hd:d.name="law")
 (hr:((PyProof.Rows.recsOf q).find? (fun e=>e.name == ("_law_asked":Str))).isSome=true):
 WalkO q loose XP vM l.row.toRowW d [] (fun f vs=>PySem.call f vs):=by
 refine Hd.ur (n:=63) (k:=13) (x:="_law_script") (CX:=fun w=>aU l.prog w) (sp:=fun K=>wm K (gs K).2) (φ:=fun K=>qQ K=dueK) (tabs:=fun K=>[gs K]) hn (by decide) hdf ⟨rfl,by decide,by decide,rfl⟩ (fun w h y=>y) ?_ (fun w K mg fa h o X G e=>qp o X G (by rw [← hd]; exact e)) ?_ ?_
 ·intro w s₀ mg mb h K o Gr KX
  obtain ⟨ht,hk⟩:=uf o
  have e:tabIn K "_law_asked"=some (gs K):=by
   unfold gs
   cases q:tabIn K "_law_asked" with
   | none=>rw [q] at ht; cases ht
   | some v=>rfl
  obtain ⟨dl,hdl⟩:=Option.isSome_iff_exists.mp hr
  have tb:=tab_of Gr.T KX hdl e
  refine ⟨fun r hr'=>?_,fun r hr'=>?_⟩
  ·have z:r=gs K:=by simpa using hr'
   subst z
   exact tb
  ·have z:r=gs K:=by simpa using hr'
   subst z
   cases q:K.lookup (gs K).2 with
   | none=>rfl
   | some v=>rw [q] at hk; cases hk
 ·intro K H a ns hl hO hS
  refine ⟨a,ns,rfl,?_,hl,⟨#[],hO.2 _ (List.mem_singleton.mpr rfl),True.intro,fun pos _=>.inl rfl⟩,fun _=>rfl⟩
  rcases hS with (hS | ⟨o,hS⟩) | hS
  ·rcases hO.1 a with z | ⟨o,xs,z⟩ | ⟨z,_⟩
   ·rw [z] at hS; cases hS
   ·rw [z] at hS; cases hS
   ·rw [z] at hS; cases hS
  ·exact .inl ⟨o,hS⟩
  ·exact .inr hS
 ·intro w H s e s' z
  obtain ⟨a,cls,a0,B,H',_,_,_,_,hE⟩:=z
  exact hE.elim
end K07
open PySem PySem.W PyProof.Rows
set_option maxRecDepth 100000 in
set_option maxHeartbeats 0 in
theorem PySem.Challenge.cw_falsesums_k07_worths_and_orders_holds : PySem.Challenge.rw_falsesums_k07_worths_and_orders.Holds := by
 w_on; o_law
 refine PySem.W.holds_open (r:=PySem.Challenge.rw_falsesums_k07_worths_and_orders.row) (q:=K07.ie) (loose:=["STEP","Field"]) (Xt:=fun s=>xlAt K07.ie K07.lv s&&recOk (PySem.Challenge.rw_falsesums_k07_worths_and_orders.row.toRowW).records s) (XP:=XL K07.ie K07.lv)
  (Yf:=fun s=>K07.qQ (Hd.vq K07.qM s.heap)) (Ya:=fun _=>K07.dueK) (YP:=K07.vM) (N:=8706) ?hl K07.xC K07.qC (fun s e=>xl_of s (Bool.and_eq_true_iff.mp e).1) XL.keeps (by rfl) (by rfl) (by rfl) (fun s e=>recFacts_of (Bool.and_eq_true_iff.mp e).2) (by rfl) (by assumption) (by decide +kernel) ⟨rfl,rfl,rfl,rfl,rfl,by decide +kernel⟩ ?hw ?hc
 case hw=>w_witness2
 case hl=>exact Hd.we K07.ran1 K07.ran3 K07.ran4
 case hc=>exact K07.Cq rfl rfl rfl (by kernel_rfl)
