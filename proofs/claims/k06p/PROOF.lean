import PyProof.Rows.All
import Wide.All
import OpenK.AllK
import Wide.FinOn
import Lean
import PyProof.EqAt
import PyProof.EqKinds
import PyProof.TupleCall
import PyProof.NeKinds
import KE.LcSums
import KE.KPairComp
import PyProof.EnumMake
import PyProof.EnumFor
import PyProof.ZipIter
import PyProof.Draws
import KE.KSortTup
import PyProof.Rows.SortWalk
import PyProof.Rows.MinMaxN
import PyProof.Rows.SetFrom
import PyProof.WalkInts
import KE.KSortKey
import PyProof.ReprRoads
import PySem.Challenge.RW_falsesums_k06_sums_and_products
set_option Elab.async false
set_option linter.all false
set_option maxRecDepth 100000
namespace L2
open PySem
theorem kZ:(2:Nat)<=sizeLine:=by decide
theorem EN:(3:Nat)<=sizeLine:=by decide
theorem EZ:(4:Nat)<=sizeLine:=by decide
theorem E2:(8:Nat)<=sizeLine:=by decide
noncomputable def aU (s:Stmt)(j:Nat):Stmt:=match s with
 | .ClassDef _ _ _ body _ _ _ _ _ _ _=>body.getD j (.Pass ⟨0,0,0,0⟩)
 | _=>.Pass ⟨0,0,0,0⟩
noncomputable def cg (s:Stmt):Arguments:=match s with
 | .FunctionDef _ a _ _ _ _ _ _ _ _=>a
 | _=>{ posonlyargs:=[],args:=[],vararg:=none,kwonlyargs:=[],kw_defaults:=[],kwarg:=none,defaults:=[] }
noncomputable def bz (s:Stmt):List Stmt:=match s with
 | .FunctionDef _ _ b _ _ _ _ _ _ _=>b
 | _=>[]
noncomputable def aq (s:Stmt):Scope:=match s with
 | .FunctionDef _ _ _ _ _ _ sc _ _ _=>sc
 | _=>{ kind:=.function,names:=[],isGenerator:=false,isCoroutine:=false }
end L2
namespace Hd
open PySem PySem.W PyProof.Rows
noncomputable def vV (as:List Addr)(h:Heap):Frag:=as.filterMap λa=>(h.get? a).map λo=>(a,o)
theorem nN (h:Heap):∀ as:List Addr,(vV as h).In h
 | [],a,o,e=>by cases e
 | b :: as,a,o,e=>by
   unfold vV at e;rw [List.filterMap_cons] at e
   cases q:h.get? b with
   | none =>
     rw [q] at e;exact nN h as a o e
   | some u =>
     rw [q] at e;dsimp only [Option.map_some] at e;rw [List.lookup_cons] at e
     by_cases z:a=b
     ·subst z;simp only [beq_self_eq_true] at e;rw [q]; exact e
     ·have:(a == b)=false:=by simpa using z
      simp only [this] at e;exact nN h as a o e
noncomputable abbrev Sig:=Str × Str × Arguments × FuncBody × Scope × Addr × List (Str × Addr) × Value × Addr
noncomputable def Aq (fd:FuncData):Sig:=(fd.name,fd.qualname,fd.params,fd.body,fd.scope,fd.globals,fd.closure,fd.defaults,fd.builtins)
noncomputable def jI (K:Frag)(v:Option (Option Value)):Option FuncData:=match v with
 | some (some (.ref f))=>(match K.lookup f with
   | some ⟨_,_,.func fd,_⟩=>some fd
   | _=>none)
 | _=>none
noncomputable def aW (K:Frag)(v:Option (Option Value)):Option Sig:=(jI K v).map Aq
noncomputable def dE (x qual:Str)(st:Stmt):Option Sig:=some (x,qual,L2.cg st,.stmts (L2.bz st),L2.aq st,mainGlobals,[],.none,builtinsNs)
noncomputable def c8 (v:Option (Option Value)):Addr:=match v with
 | some (some (.ref a))=>a
 | _=>0
noncomputable def fk (v:Option (Option Value)):Bool:=match v with
 | some (some (.ref _))=>true
 | _=>false
theorem cK {v:Option (Option Value)}(h:fk v=true):v=some (some (.ref (c8 v))):=by
 unfold fk at h
 split at h
 ·rfl
 ·cases h
noncomputable def dz (v:Option (Option Value)):Bool:=match v with
 | some none=>true
 | _=>false
theorem bo {v:Option (Option Value)}(h:dz v=true):v=some none:=by
 unfold dz at h
 split at h
 ·rfl
 ·cases h
noncomputable def dj (K:Frag)(v:Option (Option Value))(qual:Str):Bool:=keepIn K (.ref (c8 v))&&(match jI K v with
 | some fd=>codeIn K fd.code qual
 | none=>false)
noncomputable abbrev gv (K:Frag)(x:Str):Option (Option Value):=nsIn K mainGlobals x
noncomputable abbrev ga (K:Frag)(x:Str):Addr:=c8 (nsIn K mainGlobals x)
noncomputable abbrev fv (K:Frag)(c x:Str):Option (Option Value):=findIn K (.ref (c8 (nsIn K mainGlobals c))) x
noncomputable def iQ (K:Frag)(v:Option (Option Value)):Option Sig:=(jI K v).map λfd=>Aq { fd with defaults:=.none }
noncomputable def DG (K:Frag)(v:Option (Option Value)):Value:=match jI K v with
 | some fd=>fd.defaults
 | none=>.none
noncomputable def pj (K:Frag)(v:Option (Option Value)):Addr:=match DG K v with
 | .ref a=>a
 | _=>0
noncomputable def vB (K:Frag)(v:Option (Option Value)):Bool:=match DG K v with
 | .ref _=>true
 | _=>false
noncomputable def vK (K:Frag)(v:Option (Option Value))(c:Addr):Bool:=match jI K v with
 | some fd=>(match fd.code with
   | .ref a=>a == c
   | _=>false)
 | none=>false
noncomputable def uT (K:Frag)(T:Addr)(p:Value->Bool):Bool:=match K.lookup T with
 | some o=>(match o.data with
   | .seq a _=>(match a.toList with
     | [v]=>p v
     | _=>false)
   | _=>false)
 | none=>false
theorem jf {K:Frag}{T:Addr}{p:Value->Bool}(h:uT K T p=true):∃ o v n,K.lookup T=some o/\o.data = .seq #[v] n/\p v=true:=by
 unfold uT at h
 split at h
 ·rename_i o ho
  split at h
  ·rename_i a n hd
   split at h
   ·rename_i v hv
    have:a = #[v]:=by rw [<-Array.toArray_toList (xs:=a),hv]
    subst this;exact ⟨o,v,n,ho,hd,h⟩
   ·cases h
  ·cases h
 ·cases h
noncomputable def isI (n:Int)(v:Value):Bool:=match v with
 | .int i _=>i == n
 | _=>false
theorem jC {n:Int}{v:Value}(h:isI n v=true):∃ t,v = .int n t:=by
 unfold isI at h
 split at h
 ·rename_i i t
  have:i=n:=by simpa using h
  exact ⟨t,by rw [this]⟩
 ·cases h
noncomputable def wj (v:Value):Bool:=match v with
 | .none=>true
 | _=>false
theorem mQ {v:Value}(h:wj v=true):v = .none:=by
 unfold wj at h
 split at h
 ·rfl
 ·cases h
noncomputable def uY (v:Option (Option Value))(n:Int):Bool:=match v with
 | some (some u)=>isI n u
 | _=>false
theorem jb {v:Option (Option Value)}{n:Int}(h:uY v n=true):∃ t,v=some (some (.int n t)):=by
 unfold uY at h
 split at h
 ·obtain ⟨t,rfl⟩:=jC h;exact ⟨t,rfl⟩
 ·cases h
noncomputable def sO:List Value->List Int->Bool
 | [],[]=>true
 | v :: vs,n :: ns=>isI n v&&sO vs ns
 | _,_=>false
noncomputable def yp (K:Frag)(a:Addr)(ns:List Int):Bool:=match K.lookup a with
 | some o=>(match o.cls with
   | .type T=>T == "tuple"
   | _=>false)&&(match o.data with
   | .seq its _=>sO its.toList ns&&decide (its.size<=sizeLine)
   | _=>false)
 | none=>false
noncomputable def g9 (v:Option (Option Value))(s:String):Bool:=match v with
 | some (some (.builtin t))=>t == s
 | _=>false
theorem cB {v:Option (Option Value)}{s:String}(h:g9 v s=true):v=some (some (.builtin s)):=by
 unfold g9 at h
 split at h
 ·rename_i t
  have:t=s:=by simpa using h
  rw [this]
 ·cases h
noncomputable def ie (v:Option Bool)(b:Bool):Bool:=match v with
 | some c=>c == b
 | none=>false
theorem b8 {v:Option Bool}{b:Bool}(h:ie v b=true):v=some b:=by
 unfold ie at h
 split at h
 ·rename_i c
  have:c=b:=by simpa using h
  rw [this]
 ·cases h
noncomputable def zM:List Obj->BT->Nat->Option BT
 | [],t,_=>some t
 | o :: os,t,n=>match ((t.ins n o).get n).isSome with
   | true=>zM os (t.ins n o) (n + 1)
   | false=>none
theorem rP (life:Life):∀ (os:List Obj)(t t':BT)(n:Nat),zM os t n=some t'->(absHeap t' (n + os.length) life).objs=(absHeap t n life).objs++os.toArray
 | [],t,t',n,h=>by
   cases h
   simp
 | o :: os,t,t',n,h=>by
   unfold zM at h
   cases q:((t.ins n o).get n).isSome with
   | false=>rw [q] at h; cases h
   | true =>
     rw [q] at h;have e:=rP life os _ _ _ h;rw [absHeap_ins q] at e
     have:n + 1 + os.length=n + (o :: os).length:=by simp only [List.length_cons]; omega
     rw [this] at e;rw [e];show ((absHeap t n life).objs.push o)++os.toArray=_;rw [<-Array.append_singleton,Array.append_assoc];simp
noncomputable def Ee (s:Shared):Option SharedT:=(zM s.heap.objs.toList .nil 0).map λt=>⟨t,s.heap.objs.size,s.heap.life,s.gens,s.drawn,s.toks,s.os⟩
theorem Cg {s:Shared}{x:SharedT}(h:Ee s=some x):x.abs=s:=by
 unfold Ee at h;obtain ⟨t,e,rfl⟩:=Option.map_eq_some_iff.mp h;have g:=rP s.heap.life _ _ _ _ e;obtain ⟨⟨objs,life⟩,gens,drawn,toks,os⟩:=s
 have z:absHeap t objs.size life=⟨objs,life⟩:=by
  have a:(absHeap t objs.size life).objs=objs:=by
   have l:0 + objs.toList.length=objs.size:=by simp
   rw [l] at g;rw [g];simp [absHeap,BT.list]
  exact congrArg (Heap.mk · life) a
 show Shared.mk _ _ _ _ _=_;rw [z]
noncomputable def ji (tb:String->Option Builtin)(p:Program)(w:World)(n₀:Nat)(ann:Option Value):Nat->SharedT->Thread->Option SharedT
 | 0,_,_=>none
 | n + 1,s,t=>match through t with
   | true=>some s
   | false=>match stepOk n₀ ann t with
     | false=>none
     | true=>match stepT (denote tb) p w s t with
       | some (s',t')=>ji tb p w n₀ ann n s' t'
       | none=>none
section
variable {tb:String->Option Builtin}{p:Program}{w:World}{n₀:Nat}{ann:Option Value}
theorem km:∀ {n:Nat}{s s':SharedT}{t:Thread},ji tb p w n₀ ann n s t=some s'->topRun tb p w n₀ ann n s.abs t=some s'.abs
 | 0,_,_,_,h=>by cases h
 | n + 1,s,s',t,h=>by
   unfold ji at h;unfold topRun
   cases he:through t with
   | true=>rw [he] at h; cases h; rfl
   | false =>
     rw [he] at h
     cases hk:stepOk n₀ ann t with
     | false=>rw [hk] at h; cases h
     | true =>
       rw [hk] at h
       cases hs:stepT (denote tb) p w s t with
       | none=>rw [hs] at h; cases h
       | some r=>obtain ⟨s₂,t₂⟩:=r; rw [hs] at h; rw [stepT_spec hs]; exact km h
end
noncomputable def jG (tb:String->Option Builtin)(p:Program)(w:World)(N:Nat)(s₀:Shared):Option SharedT :=
 match s₀.heap.isNs mainGlobals&&s₀.gens.size == 0 with
 | true=>(Ee s₀).bind λx=>(ji tb p w s₀.heap.objs.size (s₀.heap.nsMap mainGlobals "__annotations__") N x (topStub p)).bind λs₁=>match staticsOk (importedModules p.main.body) s₀.heap s₁.abs.heap&&namesBound p s₁.abs.heap&&gensDone s₁.abs&&laidKept s₀.heap s₁.abs.heap with
  | true=>some s₁
  | false=>none
 | false=>none
theorem oj {tb:String->Option Builtin}{p:Program}{w:World}{N:Nat}{s:Shared}{y:SharedT}(h:jG tb p w N s=some y):topFrom tb p w N s=some y.abs:=by
 unfold jG at h;unfold topFrom
 cases q:(s.heap.isNs mainGlobals&&s.gens.size == 0) with
 | false=>rw [q] at h; cases h
 | true =>
   rw [q] at h;obtain ⟨x,ex,h⟩:=Option.bind_eq_some_iff.mp h;obtain ⟨z,ez,h⟩:=Option.bind_eq_some_iff.mp h;have e:=km ez;rw [Cg ex] at e;dsimp only;rw [e];show (match (staticsOk (importedModules p.main.body) s.heap z.abs.heap&&namesBound p z.abs.heap&&gensDone z.abs&&laidKept s.heap z.abs.heap) with | true=>some z.abs | false=>none)=_
   split at h
   ·cases h
    rename_i q2
    simp only [q2]
   ·cases h
noncomputable def bw (tb:String->Option Builtin)(p:Program)(w:World)(N:Nat):Option SharedT:=(fencedOpening tb p w N).bind (jG tb p w N)
theorem mH {tb:String->Option Builtin}{p:Program}{w:World}{N:Nat}{y:SharedT}(h:bw tb p w N=some y):openEnds tb p w N=some y.abs:=by
 unfold bw at h;unfold openEnds;obtain ⟨s,e,h⟩:=Option.bind_eq_some_iff.mp h;rw [e];exact oj h
theorem vO {p q:Program}{loose:List Str}{Xt:Shared->Bool}{α:Type}{Yf:Shared->α}{Ya:World->α}{N:Nat}
 (h1:∀ w,(bw treeTable p w N).map (λs=>openSeen q loose (importedModules p.main.body) Xt true s.abs)=some (openGood q loose))
 (h2:∀ w,(bw treeTable p w N).map (λs=>Yf s.abs)=some (Ya w)):LeftO p q loose Xt Yf Ya N:=λw=>by
 obtain ⟨y,e,z⟩:=Option.map_eq_some_iff.mp (h1 w);have z2:=h2 w;rw [e] at z2;rw [mH e];show some (_,_)=_;have z3:Yf y.abs=Ya w:=Option.some.inj z2;rw [z,z3]
section
variable {p q:Program}{loose mods:List Str}{Xt:Shared->Bool}{α:Type}{Yf:Shared->α}{Ya:World->α}{N:Nat}
noncomputable abbrev pJ (q:Program)(s:Shared):=(seen ((recsOf q).map (·.name)) (ownsOf q) [] { s with gens:=#[] },s.heap.bltView)
noncomputable abbrev oM (q:Program)(loose mods:List Str)(Xt:Shared->Bool)(s:Shared):Bool :=
 s.heap.keysOk (looseW q loose) ((recsOf q).map (·.name)) ((litsOf q).map (·.1)) ((clssOf q (looseW q loose)).map (·.name))&&s.heap.accountedOkI mods&&s.heap.isNs mainGlobals&&s.heap.isNs builtinsNs&&tablesOk q s.heap&&Xt s&&(if true then s.gens.size == 0 else !leftWithCleanup s.gens)
noncomputable abbrev oI (q:Program)(loose:List Str)(s:Shared):=(tabsOk q s,pinSeenD q (drecsOf q) s,plainSeenE q (looseW q loose) s,plainSeenD q loose s,wideSeen q s,clsSeenW q loose s)
theorem yt
 (h1:∀ w,(bw treeTable p w N).map (λs=>pJ q s.abs)=some (expectedOf q,bltViewBooted))
 (h2:∀ w,(bw treeTable p w N).map (λs=>oM q loose (importedModules p.main.body) Xt s.abs)=some true)
 (h3:∀ w,(bw treeTable p w N).map (λs=>oI q loose s.abs)=some (true,pinGoodD (drecsOf q),plainGoodE q (looseW q loose),plainGoodD q loose,wideGood q,clsGoodW q loose))
 (h4:∀ w,(bw treeTable p w N).map (λs=>Yf s.abs)=some (Ya w)):LeftO p q loose Xt Yf Ya N:=by
 refine vO (λw=>?_) h4;obtain ⟨y,e,z1⟩:=Option.map_eq_some_iff.mp (h1 w);have z2:=h2 w;have z3:=h3 w;rw [e] at z2 z3 |-;have z2:oM q loose (importedModules p.main.body) Xt y.abs=true:=Option.some.inj z2;have z3:oI q loose y.abs=_:=Option.some.inj z3;show some (openSeen q loose (importedModules p.main.body) Xt true y.abs)=_;have e1:openSeen q loose (importedModules p.main.body) Xt true y.abs=((pJ q y.abs).1,(pJ q y.abs).2,oM q loose (importedModules p.main.body) Xt y.abs,oI q loose y.abs):=rfl;rw [e1,z1,z2,z3];rfl
theorem yy
 (h1:∀ w,(bw treeTable p w N).map (λs=>(pJ q s.abs,oM q loose (importedModules p.main.body) Xt s.abs))=some ((expectedOf q,bltViewBooted),true))
 (h3:∀ w,(bw treeTable p w N).map (λs=>oI q loose s.abs)=some (true,pinGoodD (drecsOf q),plainGoodE q (looseW q loose),plainGoodD q loose,wideGood q,clsGoodW q loose))
 (h4:∀ w,(bw treeTable p w N).map (λs=>Yf s.abs)=some (Ya w)):LeftO p q loose Xt Yf Ya N:=by
 refine yt (λw=>?_) (λw=>?_) h3 h4
 ·obtain ⟨y,e,z⟩:=Option.map_eq_some_iff.mp (h1 w);rw [e];exact congrArg some (Prod.mk.inj z).1
 ·obtain ⟨y,e,z⟩:=Option.map_eq_some_iff.mp (h1 w);rw [e];exact congrArg some (Prod.mk.inj z).2
end
end Hd
namespace K06
open PySem L2 PySem.W
open Hd (gv ga fv c8 fk cK dz bo g9 cB ie b8 dj aW iQ dE vB pj uT jf wj mQ isI jC uY jb yp vK)
noncomputable def aZ (i:Nat):Stmt:=PySem.Challenge.pw_falsesums_k06_sums_and_products.main.body.getD i (.Pass ⟨0,0,0,0⟩)
noncomputable def primes:List Int:=[2,3,5,7,11,13,17,19,23,29,31,37,41,43,47,53,59,61,67,71,73,79,83,89,97]
noncomputable abbrev Bg:List Value:=[.type "ValueError",.type "Exception",.type "BaseException",.type "object"]
noncomputable abbrev p3:String:="ValueError.__new__"
noncomputable def gL (K:Frag):Addr × Addr:=(tabIn K "law").getD (0,0)
noncomputable def Er (K:Frag):Bool :=
 (dz (gv K "isinstance") &&
 (dz (gv K "int") &&
 (dz (gv K "bool") &&
 (dz (gv K "ValueError") &&
 (dz (gv K "abs") &&
 (dz (gv K "len") &&
 (dz (gv K "tuple") &&
 (dz (gv K "all") &&
 (dz (gv K "zip") &&
 (dz (gv K "list") &&
 (dz (gv K "enumerate") &&
 (dz (gv K "sorted") &&
 (dz (gv K "max") &&
 (dz (gv K "min") &&
 (dz (gv K "set") &&
 (dz (gv K "range")))))))))))))))))
noncomputable def Ec (K:Frag):Bool :=
 (fk (gv K "Sum") &&
 (fk (gv K "Field") &&
 (fk (gv K "FalseError") &&
 (fk (gv K "NoNumber") &&
 (fk (gv K "NoSum") &&
 (fk (gv K "Unlike") &&
 (fk (gv K "NoField") &&
 (fk (gv K "PRIMES") &&
 (uY (gv K "FRACTIONS") 0 &&
 (uY (gv K "MOST_PLACES") 60 &&
 (dj K (gv K "is_whole") "is_whole" &&
 (dj K (gv K "is_place") "is_place" &&
 (dj K (gv K "is_product") "is_product" &&
 (dj K (gv K "is_term") "is_term" &&
 (dj K (gv K "checked_terms") "checked_terms" &&
 (dj K (gv K "place_of_term") "place_of_term"))))))))))))))))
noncomputable def Em (K:Frag):Bool :=
 (dj K (gv K "gathered") "gathered" &&
 (dj K (gv K "together") "together" &&
 (dj K (gv K "built") "built" &&
 (dj K (gv K "common_divisor") "common_divisor" &&
 (dj K (gv K "lowest") "lowest" &&
 (dj K (gv K "_law_room") "_law_room" &&
 (dj K (gv K "_law_take") "_law_take" &&
 (dj K (gv K "_law_lowest") "_law_lowest" &&
 (dj K (gv K "_law_whole") "_law_whole" &&
 (dj K (gv K "_law_is_number") "_law_is_number" &&
 (dj K (gv K "_law_make") "_law_make" &&
 (dj K (gv K "_law_plus") "_law_plus" &&
 (dj K (gv K "_law_times") "_law_times" &&
 (dj K (gv K "_law_prime") "_law_prime" &&
 (dj K (gv K "_law_number") "_law_number" &&
 (dj K (gv K "_law_product") "_law_product"))))))))))))))))
noncomputable def Eo (K:Frag):Bool :=
 (dj K (gv K "_law_terms") "_law_terms" &&
 (dj K (gv K "_law_gather") "_law_gather" &&
 (dj K (gv K "_law_mult") "_law_mult" &&
 (dj K (gv K "_law_kind") "_law_kind" &&
 (dj K (gv K "_law_is_sum") "_law_is_sum" &&
 (dj K (gv K "_law_both") "_law_both" &&
 (dj K (gv K "_law_scaled") "_law_scaled" &&
 (dj K (fv K "Sum" "__eq__") "Sum.__eq__" &&
 (isFn K (.ref (c8 (fv K "Sum" "__eq__"))) &&
 (dj K (fv K "Sum" "field") "Sum.field" &&
 (isFn K (.ref (c8 (fv K "Sum" "field"))) &&
 (dj K (fv K "Sum" "terms") "Sum.terms" &&
 (isFn K (.ref (c8 (fv K "Sum" "terms"))) &&
 (dj K (fv K "Sum" "is_like") "Sum.is_like" &&
 (isFn K (.ref (c8 (fv K "Sum" "is_like"))) &&
 (dj K (fv K "Sum" "plus") "Sum.plus"))))))))))))))))
noncomputable def En (K:Frag):Bool :=
 (isFn K (.ref (c8 (fv K "Sum" "plus"))) &&
 (dj K (fv K "Sum" "times") "Sum.times" &&
 (isFn K (.ref (c8 (fv K "Sum" "times"))) &&
 (dj K (fv K "Sum" "scaled") "Sum.scaled" &&
 (isFn K (.ref (c8 (fv K "Sum" "scaled"))) &&
 (dj K (fv K "Field" "__eq__") "Field.__eq__" &&
 (isFn K (.ref (c8 (fv K "Field" "__eq__"))) &&
 (dj K (fv K "Field" "plus") "Field.plus" &&
 (isFn K (.ref (c8 (fv K "Field" "plus"))) &&
 (dj K (fv K "Field" "times") "Field.times" &&
 (isFn K (.ref (c8 (fv K "Field" "times"))) &&
 (dj K (fv K "Field" "settled") "Field.settled" &&
 (isFn K (.ref (c8 (fv K "Field" "settled"))) &&
 (dj K (fv K "Field" "is_number") "Field.is_number" &&
 (isFn K (.ref (c8 (fv K "Field" "is_number"))) &&
 (dj K (fv K "Field" "prime") "Field.prime"))))))))))))))))
noncomputable def Ed (K:Frag):Bool :=
 (isFn K (.ref (c8 (fv K "Field" "prime"))) &&
 (dj K (fv K "Sum" "__init__") "Sum.__init__" &&
 (isFn K (.ref (c8 (fv K "Sum" "__init__"))) &&
 (vB K (fv K "Sum" "__init__") &&
 (uT K (pj K (fv K "Sum" "__init__")) (wj) &&
 (dj K (fv K "Field" "__init__") "Field.__init__" &&
 (isFn K (.ref (c8 (fv K "Field" "__init__"))) &&
 (vB K (fv K "Field" "__init__") &&
 (uT K (pj K (fv K "Field" "__init__")) (isI 0) &&
 (plainGet K (ga K "Field") Str.empty &&
 (hasDictIn K (ga K "Field") &&
 (plainOver K (ga K "Field") &&
 (g9 (fv K "Field" "__setattr__") "object.__setattr__" &&
 (dz (fv K "Field" "its_prime") &&
 (((clsIn K (ga K "Field")).isSome&&typeIn K (.ref (ga K "Field")) == some (.type "type")) &&
 (g9 (fv K "Field" "__class__") "object.__class__"))))))))))))))))
noncomputable def DV (K:Frag):Bool :=
 (g9 (specialIn K (.builtin "object.__class__") "__get__") "getset_descriptor.__get__" &&
 (ie (takesIn K (.builtin "object.__class__")) true &&
 (ie (mroIn K (ga K "Field") (.type "object")) true &&
 (plainGet K (ga K "Sum") Str.empty &&
 (hasDictIn K (ga K "Sum") &&
 (plainOver K (ga K "Sum") &&
 (g9 (fv K "Sum" "__setattr__") "object.__setattr__" &&
 (dz (fv K "Sum" "its_field") &&
 (dz (fv K "Sum" "its_terms") &&
 (((clsIn K (ga K "Sum")).isSome&&typeIn K (.ref (ga K "Sum")) == some (.type "type")) &&
 (g9 (fv K "Sum" "__class__") "object.__class__" &&
 (ie (mroIn K (ga K "Sum") (.type "object")) true &&
 (yp K (ga K "PRIMES") primes &&
 ((clsIn K (ga K "NoNumber")).isSome &&
 (g9 (fv K "NoNumber" "__getattribute__") "BaseException.__getattribute__" &&
 (dz (fv K "NoNumber" "__getattr__")))))))))))))))))
noncomputable def EA (K:Frag):Bool :=
 (g9 (fv K "NoNumber" "__class__") "object.__class__" &&
 (ie (mroIn K (ga K "NoNumber") (.type "object")) true &&
 (ie (mroIn K (ga K "NoNumber") (.type "BaseException")) true &&
 ((clsIn K (ga K "Unlike")).isSome &&
 (g9 (fv K "Unlike" "__getattribute__") "BaseException.__getattribute__" &&
 (dz (fv K "Unlike" "__getattr__") &&
 (g9 (fv K "Unlike" "__class__") "object.__class__" &&
 (ie (mroIn K (ga K "Unlike") (.type "object")) true &&
 (ie (mroIn K (ga K "Unlike") (.type "BaseException")) true &&
 (ie (exmOne K (.ref (ga K "NoNumber")) (.ref (ga K "FalseError"))) true &&
 (ie (exmOne K (.ref (ga K "Unlike")) (.ref (ga K "FalseError"))) true &&
 (ie (kitOne K (.ref (ga K "NoNumber")) (.ref (ga K "NoNumber"))) true &&
 (ie (kitOne K (.ref (ga K "NoNumber")) (.ref (ga K "NoSum"))) false &&
 (ie (kitOne K (.ref (ga K "NoNumber")) (.ref (ga K "Unlike"))) false &&
 (ie (kitOne K (.ref (ga K "NoNumber")) (.type "ValueError")) true &&
 (ie (kitOne K (.ref (ga K "Unlike")) (.ref (ga K "NoNumber"))) false))))))))))))))))
noncomputable def DP (K:Frag):Bool :=
 (ie (kitOne K (.ref (ga K "Unlike")) (.ref (ga K "NoSum"))) false &&
 (ie (kitOne K (.ref (ga K "Unlike")) (.ref (ga K "Unlike"))) true &&
 (ie (kitOne K (.ref (ga K "Unlike")) (.type "ValueError")) true &&
 (excIn K (ga K "NoField") Bg p3 &&
 (excIn K (ga K "NoNumber") Bg p3 &&
 (excIn K (ga K "Unlike") Bg p3 &&
 (g9 (fv K "Sum" "__ne__") "object.__ne__" &&
 (dj K (gv K "law") "law" &&
 (vK K (gv K "law") (gL K).1 &&
 ((tabIn K "law").isSome &&
 ((K.lookup (gL K).2).isNone &&
 (makesIn K (ga K "Sum") &&
 (keepIn K (.ref (ga K "Sum")) &&
 (makesIn K (ga K "Field") &&
 (keepIn K (.ref (ga K "Field")))))))))))))))))
noncomputable def ke (K:Frag):Bool:=Er K&&(Ec K&&(Em K&&(Eo K&&(En K&&(Ed K&&(DV K&&(EA K&&(DP K))))))))
noncomputable def rh (K:Frag):Bool × List (Option Hd.Sig):=(ke K,[aW K (gv K "is_whole"),aW K (gv K "is_place"),aW K (gv K "is_product"),aW K (gv K "is_term"),aW K (gv K "checked_terms"),aW K (gv K "place_of_term"),aW K (gv K "gathered"),aW K (gv K "together"),aW K (gv K "built"),aW K (gv K "common_divisor"),aW K (gv K "lowest"),aW K (gv K "_law_room"),aW K (gv K "_law_take"),aW K (gv K "_law_lowest"),aW K (gv K "_law_whole"),aW K (gv K "_law_is_number"),aW K (gv K "_law_make"),aW K (gv K "_law_plus"),aW K (gv K "_law_times"),aW K (gv K "_law_prime"),aW K (gv K "_law_number"),aW K (gv K "_law_product"),aW K (gv K "_law_terms"),aW K (gv K "_law_gather"),aW K (gv K "_law_mult"),aW K (gv K "_law_kind"),aW K (gv K "_law_is_sum"),aW K (gv K "_law_both"),aW K (gv K "_law_scaled"),aW K (fv K "Sum" "__eq__"),aW K (fv K "Sum" "field"),aW K (fv K "Sum" "terms"),aW K (fv K "Sum" "is_like"),aW K (fv K "Sum" "plus"),aW K (fv K "Sum" "times"),aW K (fv K "Sum" "scaled"),aW K (fv K "Field" "__eq__"),aW K (fv K "Field" "plus"),aW K (fv K "Field" "times"),aW K (fv K "Field" "settled"),aW K (fv K "Field" "is_number"),aW K (fv K "Field" "prime"),iQ K (fv K "Sum" "__init__"),iQ K (fv K "Field" "__init__"),aW K (gv K "law")])
noncomputable def dueK:Bool × List (Option Hd.Sig):=(true,[dE "is_whole" "is_whole" ((aZ 9)),dE "is_place" "is_place" ((aZ 10)),dE "is_product" "is_product" ((aZ 11)),dE "is_term" "is_term" ((aZ 20)),dE "checked_terms" "checked_terms" ((aZ 21)),dE "place_of_term" "place_of_term" ((aZ 22)),dE "gathered" "gathered" ((aZ 23)),dE "together" "together" ((aZ 24)),dE "built" "built" ((aZ 27)),dE "common_divisor" "common_divisor" ((aZ 31)),dE "lowest" "lowest" ((aZ 32)),dE "_law_room" "_law_room" ((aZ 36)),dE "_law_take" "_law_take" ((aZ 37)),dE "_law_lowest" "_law_lowest" ((aZ 38)),dE "_law_whole" "_law_whole" ((aZ 39)),dE "_law_is_number" "_law_is_number" ((aZ 40)),dE "_law_make" "_law_make" ((aZ 41)),dE "_law_plus" "_law_plus" ((aZ 42)),dE "_law_times" "_law_times" ((aZ 43)),dE "_law_prime" "_law_prime" ((aZ 44)),dE "_law_number" "_law_number" ((aZ 45)),dE "_law_product" "_law_product" ((aZ 46)),dE "_law_terms" "_law_terms" ((aZ 47)),dE "_law_gather" "_law_gather" ((aZ 48)),dE "_law_mult" "_law_mult" ((aZ 49)),dE "_law_kind" "_law_kind" (aZ 50),dE "_law_is_sum" "_law_is_sum" ((aZ 51)),dE "_law_both" "_law_both" ((aZ 52)),dE "_law_scaled" "_law_scaled" ((aZ 53)),dE "__eq__" "Sum.__eq__" (aU (aZ 26) 1),dE "field" "Sum.field" (aU (aZ 26) 5),dE "terms" "Sum.terms" (aU (aZ 26) 6),dE "is_like" "Sum.is_like" (aU (aZ 26) 9),dE "plus" "Sum.plus" (aU (aZ 26) 10),dE "times" "Sum.times" (aU (aZ 26) 11),dE "scaled" "Sum.scaled" (aU (aZ 26) 12),dE "__eq__" "Field.__eq__" (aU (aZ 34) 1),dE "plus" "Field.plus" (aU (aZ 34) 6),dE "times" "Field.times" (aU (aZ 34) 8),dE "settled" "Field.settled" (aU (aZ 34) 10),dE "is_number" "Field.is_number" (aU (aZ 34) 11),dE "prime" "Field.prime" (aU (aZ 34) 3),dE "__init__" "Sum.__init__" (aU (aZ 26) 0),dE "__init__" "Field.__init__" (aU (aZ 34) 0),dE "law" "law" ((aZ 54))])
noncomputable def qm:List Addr:=[3,30,31,43,44,55,56,67,68,87,95,96,102,103,107,108,140,141,147,148,154,155,159,160,166,167,180,186,187,193,194,221,222,228,229,249,250,256,257,261,262,266,267,290,291,301,302,303,309,310,316,317,332,338,339,345,346,359,360,381,382,395,396,409,410,416,417,419,420,430,431,437,438,444,445,451,452,458,459,463,464,470,471,477,478,484,485,491,492,496,497,503,504,508,509,515,516,522,523,529,530,536,537,541,542,546,547]
noncomputable def gQ:Program:={ PySem.Challenge.pw_falsesums_k06_sums_and_products with main:={ PySem.Challenge.pw_falsesums_k06_sums_and_products.main with body:=[aZ 0,aZ 2,aZ 3,aZ 4,aZ 5,aZ 6,aZ 8,aZ 9,aZ 10,aZ 11,aZ 13,aZ 14,aZ 15,aZ 16,aZ 17,aZ 18,aZ 20,aZ 21,aZ 22,aZ 23,aZ 24,aZ 25,aZ 26,aZ 27,aZ 29,aZ 30,aZ 31,aZ 32,aZ 33,aZ 34,aZ 36,aZ 37,aZ 38,aZ 39,aZ 40,aZ 41,aZ 42,aZ 43,aZ 44,aZ 45,aZ 46,aZ 47,aZ 48,aZ 49,aZ 50,aZ 51,aZ 52,aZ 53,aZ 54] } }
noncomputable def lv:List (PySem.Str × WData):=[("STEP",.int 10000000000000000000000000000000000000000000000000000000000000000)]
end K06
section
open PySem PySem.W PyProof.Rows
set_option maxRecDepth 100000 in
set_option maxHeartbeats 0 in
theorem K06.ran1:∀ w,(Hd.bw treeTable PySem.Challenge.rw_falsesums_k06_sums_and_products.row.prog w 7328).map (λs=>(Hd.pJ K06.gQ s.abs,Hd.oM K06.gQ ["STEP","Field"] (importedModules PySem.Challenge.rw_falsesums_k06_sums_and_products.row.prog.main.body) (λs=>xlAt K06.gQ K06.lv s&&recOk (PySem.Challenge.rw_falsesums_k06_sums_and_products.row.toRowW).records s) s.abs))=some ((PyProof.Rows.expectedOf K06.gQ,bltViewBooted),true):=by
 intro w; kernel_rfl
set_option maxRecDepth 100000 in
set_option maxHeartbeats 0 in
theorem K06.ran3:∀ w,(Hd.bw treeTable PySem.Challenge.rw_falsesums_k06_sums_and_products.row.prog w 7328).map (λs=>Hd.oI K06.gQ ["STEP","Field"] s.abs)=some (true,pinGoodD (drecsOf K06.gQ),plainGoodE K06.gQ (looseW K06.gQ ["STEP","Field"]),plainGoodD K06.gQ ["STEP","Field"],wideGood K06.gQ,clsGoodW K06.gQ ["STEP","Field"]):=by
 intro w; kernel_rfl
set_option maxRecDepth 100000 in
set_option maxHeartbeats 0 in
theorem K06.ran4:∀ w,(Hd.bw treeTable PySem.Challenge.rw_falsesums_k06_sums_and_products.row.prog w 7328).map (λs=>K06.rh (Hd.vV K06.qm s.abs.heap))=some K06.dueK:=by
 intro w; kernel_rfl
end
namespace L2
open PySem PySem.Spec PyProof.Rows
noncomputable abbrev Key:=Sum Int Str
noncomputable def lB:Key->Value->Bool
 | .inl k,v=>Value.isInt k v
 | .inr x,v=>Value.isStrOf x v
noncomputable def Eu (w:World):Key->Int
 | .inl k=>hashInt k
 | .inr x=>hashStr w x
theorem bY:∀ {k:Key}{v:Value},lB k v=true->(∃ i t,k=Sum.inl i/\v=Value.int i t)\/(∃ x t,k=Sum.inr x/\v=Value.str x t)
 | .inl i,v,h=>by
   obtain ⟨t,e⟩:=Value.isInt_shape (k:=i) (v:=v) h;exact .inl ⟨i,t,rfl,e⟩
 | .inr x,v,h=>by
   obtain ⟨t,e⟩:=Value.isStrOf_shape (x:=x) (v:=v) h;exact .inr ⟨x,t,rfl,e⟩
theorem uy (i:Int)(t:Tok):lB (.inl i) (.int i t)=true:=by simp [lB,Value.isInt]
theorem uN (x:Str)(t:Tok):lB (.inr x) (.str x t)=true:=by simp [lB,Value.isStrOf]
theorem BI (a b:Int):decide ((Sum.inl a:Key)=Sum.inl b)=(a == b):=by
 by_cases e:a=b
 ·subst e; simp
 ·have h:¬ (Sum.inl a:Key)=Sum.inl b:=λq=>e (Sum.inl.inj q);rw [decide_eq_false h];exact (beq_eq_false_iff_ne.mpr e).symm
theorem Bs (a b:Str):decide ((Sum.inr a:Key)=Sum.inr b)=decide (a=b):=by
 by_cases e:a=b
 ·subst e; simp
 ·have h:¬ (Sum.inr a:Key)=Sum.inr b:=λq=>e (Sum.inr.inj q);rw [decide_eq_false h,decide_eq_false e]
theorem AS (a:Int)(b:Str):decide ((Sum.inl a:Key)=Sum.inr b)=false:=decide_eq_false (λq=>nomatch q)
theorem A2 (a:Str)(b:Int):decide ((Sum.inr a:Key)=Sum.inl b)=false:=decide_eq_false (λq=>nomatch q)
noncomputable def bQ (prog:Program)(w:World):PySem.KeyKind prog w Key where
 is:=lB
 hash:=Eu w
 inj:=λv a b ha hb=>by
  rcases bY ha with ⟨i,t,rfl,rfl⟩ | ⟨x,t,rfl,rfl⟩
  ·rcases bY hb with ⟨j,u,rfl,e⟩ | ⟨y,u,rfl,e⟩
   ·injection e with e1 _; rw [e1]
   ·exact nomatch e
  ·rcases bY hb with ⟨j,u,rfl,e⟩ | ⟨y,u,rfl,e⟩
   ·exact nomatch e
   ·injection e with e1 _; rw [e1]
 byValue:=λk v h=>by
  rcases bY h with ⟨i,t,rfl,rfl⟩ | ⟨x,t,rfl,rfl⟩ <;> rfl
 pyHash:=λhv h=>by
  rcases bY hv with ⟨i,t,rfl,rfl⟩ | ⟨x,t,rfl,rfl⟩
  ·exact wpAny_pyHash_int h
  ·exact wpAny_pyHash_str h
 eqBool:=λhu hv h=>by
  rcases bY hu with ⟨i,t,rfl,rfl⟩ | ⟨x,t,rfl,rfl⟩
  ·rcases bY hv with ⟨j,u,rfl,rfl⟩ | ⟨y,u,rfl,rfl⟩
   ·rw [BI] at h; exact wpAny_eqBool_int h
   ·rw [AS] at h; exact SeqAt.EqAt.int_str i t y u _ _ _ _ h
  ·rcases bY hv with ⟨j,u,rfl,rfl⟩ | ⟨y,u,rfl,rfl⟩
   ·rw [A2] at h; exact SeqAt.EqAt.str_int x t j u _ _ _ _ h
   ·rw [Bs] at h; exact wpAny_eqBool_str h
 «strs»:=λk x t v h=>by
  rcases bY h with ⟨i,u,rfl,e⟩ | ⟨y,u,rfl,e⟩
  ·exact nomatch e
  ·injection e with e1 _
   subst e1
   cases v <;> rfl
theorem pY (prog:Program)(w:World)(i:Int)(t:Tok):(bQ prog w).is (.inl i) (.int i t)=true:=uy i t
theorem oE (prog:Program)(w:World)(x:Str)(t:Tok):(bQ prog w).is (.inr x) (.str x t)=true:=uN x t
inductive V where
 | non | bl (b:Bool) | int (i:Int) | str (x:Str) | byt (b:Array UInt8) | flt (b:UInt64) | ref (a:Addr) | ty (n:String)
 deriving DecidableEq
noncomputable def aC:V->Value->Prop
 | .non,u=>u=Value.none
 | .bl b,u=>u=Value.bool b
 | .int i,u=>∃ t,u=Value.int i t
 | .str x,u=>∃ t,u=Value.str x t
 | .byt b,u=>∃ t,u=Value.bytes b t
 | .flt b,u=>∃ t,u=Value.float b t
 | .ref a,u=>u=Value.ref a
 | .ty n,u=>u=Value.type n
noncomputable abbrev aK:List V->List Value->Prop:=Paired aC
theorem aK.length {xs:List V}{us:List Value}(r:aK xs us):xs.length=us.length:=Paired.length r
theorem aK.get:∀ {xs:List V}{us:List Value}{i:Nat}{x:V},aK xs us->xs[i]?=some x->∃ u,us[i]?=some u/\aC x u
 | _,_,_,_,.nil,e=>by simp at e
 | _,_,0,_,.cons r _,e=>by simp at e; subst e; exact ⟨_,rfl,r⟩
 | _,_,i + 1,x,.cons _ t,e=>by
   obtain ⟨u,h1,h2⟩:=aK.get (i:=i) (x:=x) t (by simpa using e);exact ⟨u,by simpa using h1,h2⟩
theorem aK.set {x:V}{u:Value}(r:aC x u):∀ {xs:List V}{us:List Value}(i:Nat),aK xs us->aK (xs.set i x) (us.set i u)
 | _,_,_,.nil=>.nil
 | _,_,0,.cons _ t=>.cons r t
 | _,_,i + 1,.cons q t=>.cons q (aK.set r i t)
theorem aK.append:∀ {xs ys:List V}{us ws:List Value},aK xs us->aK ys ws->aK (xs++ys) (us++ws)
 | _,_,_,_,.nil,s=>s
 | _,_,_,_,.cons r t,s=>.cons r (aK.append t s)
theorem aK.take:∀ {xs:List V}{us:List Value}(n:Nat),aK xs us->aK (xs.take n) (us.take n)
 | _,_,0,_=>.nil
 | _,_,_ + 1,.nil=>.nil
 | _,_,n + 1,.cons r t=>.cons r (aK.take n t)
theorem aK.drop:∀ {xs:List V}{us:List Value}(n:Nat),aK xs us->aK (xs.drop n) (us.drop n)
 | _,_,0,r=>r
 | _,_,_ + 1,.nil=>.nil
 | _,_,n + 1,.cons _ t=>aK.drop n t
noncomputable def fE:Option V->Option Value->Prop
 | some v,some u=>aC v u
 | none,none=>True
 | _,_=>False
noncomputable def KV {κ:Type}:List (κ × V)->List (κ × Value)->Prop:=Paired λ(p:κ × V)(q:κ × Value)=>p.1=q.1/\aC p.2 q.2
noncomputable def kV:Key->V
 | .inl i=>.int i
 | .inr x=>.str x
inductive HO where
 /-- a list -/
 | lst (xs:List V)
 /-- a tuple (never changes) -/
 | tup (xs:List V)
 /-- a dict MW keys are ints and texts; one MW keys are tuples of ints and texts (JG empty one is both) -/
 | dK (E9:List (Key × V)) | dT (E9:List (List Key × V))
 /-- a set of ints: its members,its size -/
 | set (S:Int->Bool)(n:Nat)
 /-- an instance of JG class at C,its dict at dx,its attributes -/
 | ins (C dx:Addr)(fs:List (Str × V))
 /-- JG dict of JG instance at x -/
 | own (x:Addr)
 /-- JG dict of an exception -/
 | xd (fs:List (Str × V))
 /-- a bound method,f of x -/
 | met (f x:Addr)
 /-- a range object lo,lo + 1,.. below hi -/
 | rng (lo hi:Int)
 /-- a MX Yv is known to JG object (JG R6; a dict while a loop An it): read,never written while it is so -/
 | frz (o:Obj)(u:HO)
 /-- a code MY table -/
 | tbl (ps:Array Value)
 /-- any other MX,by Yw is true of its one object (a def of Wj own: Yx a S n:=HO.ext λh=>..) -/
 | ext (φ:Heap->Prop)
noncomputable abbrev Hp:=Addr->Option HO
noncomputable def upd (H:Hp)(a:Addr)(o:HO):Hp:=λb=>if b=a then some o else H b
theorem ah {H:Hp}{a:Addr}{o:HO}:upd H a o a=some o:=by unfold upd; rw [if_pos rfl]
theorem ao {H:Hp}{a b:Addr}{o:HO}(h:b≠a):upd H a o b=H b:=by unfold upd; rw [if_neg h]
theorem sN {H:Hp}{a:Addr}{o u:HO}:upd (upd H a o) a u=upd H a u:=by
 funext b; unfold upd; split <;> rfl
theorem oJ {H:Hp}{a b:Addr}{o u:HO}(h:H a=some o)(h':H b=some u)(d:o≠u):a≠b:=by
 intro e; subst e; rw [h] at h'; exact d (Option.some.inj h')
theorem au {H:Hp}{a b:Addr}{o:HO}(h:H a=some o)(h':H b=none):a≠b:=by
 intro e; subst e; rw [h] at h'; cases h'
section
variable (P:Program)(w:World)
noncomputable def ba (H:Hp)(h:Heap)(a:Addr):HO->Prop
 | .lst xs=>xs.length<=sizeLine/\∃ (its:List Value)(n:Nat),aK xs its/\h.get? a=some { cls:=.type "list",data:=.seq its.toArray n }
 | .tup xs=>xs.length<=sizeLine/\∃ its:List Value,aK xs its/\IsTup h a its.toArray
 | .dK E9=>E9.length<=sizeLine/\(a == sysModules)=false/\∃ vs,KV E9 vs/\h.DictOf (bQ P w) a vs
 | .dT E9=>E9.length<=sizeLine/\(a == sysModules)=false/\∃ xs:List (List Key × Addr × Value),
  Paired (λ(p:List Key × V)(q:List Key × Addr × Value)=>p.1=q.1/\H q.2.1=some (.tup (p.1.map kV))/\aC p.2 q.2.2) E9 xs /\
  ∃ o es ep,h.get? a=some o/\o.ExactDict/\o.data = .dict es ep/\es.toList=xs.map (entryOfKey (tupleKind (bQ P w)))/\(xs.map (·.1)).Nodup
 | .set S n=>h.SetOf (intKind P w) a S n
 | .ins C dx fs=>H dx=some (.own a)/\fs.length<=1000/\dx≠a/\h.get? a=some (PySem.W.instObj C dx) /\
  ∃ mA,h.Ns1 dx mA/\(∀ f,fE (fs.lookup f) (mA f))/\PySem.Within mA (fs.map (·.1))
 | .own _=>∃ o,h.get? a=some o
 | .xd fs=>∃ mA,h.Ns1 a mA/\∀ f,fE (fs.lookup f) (mA f)
 | .rng lo hi=>∃ t u v,h.get? a=some { cls:=.type "range",data:=.fields #[.int lo t,.int hi u,.int 1 v] }
 | .frz o u=>h.get? a=some o/\ba H h a u
 | .tbl ps=>h.get? a=some { cls:=.none,data:=.fields ps }
 | .met f x=>h.get? a=some (PySem.W.methodObj (.ref f) (.ref x))
 | .ext φ=>φ h/\(∃ o,h.get? a=some o)/\∀ h1 h2:Heap,φ h1->(∀ o,h1.get? a=some o->h2.get? a=some o)->φ h2
noncomputable def eG (H:Hp)(h:Heap):Prop:=∀ a o,H a=some o->ba P w H h a o
end
section
variable {P:Program}{w:World}{H H':Hp}{h h':Heap}{a:Addr}{o:HO}
theorem ba.lt (x:ba P w H h a o):a < h.objs.size:=by
 cases o with
 | lst xs=>obtain ⟨_,_,_,_,e⟩:=x; exact Heap.lt_size e
 | tup xs=>obtain ⟨_,_,_,p⟩:=x; exact p.lt
 | dK E9=>obtain ⟨_,_,_,_,o,_,_,e,_⟩:=x; exact Heap.lt_size e
 | dT E9=>obtain ⟨_,_,_,_,o,_,_,e,_⟩:=x; exact Heap.lt_size e
 | set S n=>obtain ⟨o,_,_,_,e,_⟩:=x; exact Heap.lt_size e
 | ins C dx fs=>obtain ⟨_,_,_,e,_⟩:=x; exact Heap.lt_size e
 | own y=>obtain ⟨_,e⟩:=x; exact Heap.lt_size e
 | xd fs=>obtain ⟨_,⟨_,_,_,e,_⟩,_⟩:=x; exact Heap.lt_size e
 | rng lo hi=>obtain ⟨_,_,_,e⟩:=x; exact Heap.lt_size e
 | frz ob u=>obtain ⟨e,_⟩:=x; exact Heap.lt_size e
 | tbl ps=>exact Heap.lt_size (show h.get? a=some _ from x)
 | met f y=>exact Heap.lt_size (show h.get? a=some _ from x)
 | ext φ=>obtain ⟨_,⟨_,e⟩,_⟩:=x; exact Heap.lt_size e
theorem Paired.mapP {α β:Type}{F G:α->β->Prop}:∀ {l₁:List α}{l₂:List β},Paired F l₁ l₂->(∀ a b,F a b->G a b)->Paired G l₁ l₂
 | _,_,.nil,_=>.nil
 | _,_,.cons r t,f=>.cons (f _ _ r) (Paired.mapP t f)
theorem ba.stay (x:ba P w H h a o)(k:∀ b u,(b=a\/H b=some (.own a))->h.get? b=some u->h'.get? b=some u)
 (ho:∀ b,H b=some (.own a)->H' b=some (.own a))(ht:∀ b xs,H b=some (.tup xs)->H' b=some (.tup xs)):ba P w H' h' a o:=by
 induction o with
 | lst xs=>obtain ⟨z,its,n,r,e⟩:=x; exact ⟨z,its,n,r,k _ _ (.inl rfl) e⟩
 | tup xs=>obtain ⟨z,its,r,ob,e,c⟩:=x; exact ⟨z,its,r,ob,k _ _ (.inl rfl) e,c⟩
 | dK E9=>obtain ⟨z,y,vs,r,ob,es,ep,e,c⟩:=x; exact ⟨z,y,vs,r,ob,es,ep,k _ _ (.inl rfl) e,c⟩
 | dT E9 =>
   obtain ⟨z,y,xs,r,ob,es,ep,e,c⟩:=x;exact ⟨z,y,xs,Paired.mapP r λp q z=>⟨z.1,ht _ _ z.2.1,z.2.2⟩,ob,es,ep,k _ _ (.inl rfl) e,c⟩
 | set S n=>obtain ⟨ob,es,ep,t,e,c⟩:=x; exact ⟨ob,es,ep,t,k _ _ (.inl rfl) e,c⟩
 | ins C dx fs =>
   obtain ⟨d,z,ne,e,mA,⟨od,es,ep,e2,c⟩,r⟩:=x;exact ⟨ho _ d,z,ne,k _ _ (.inl rfl) e,mA,⟨od,es,ep,k _ _ (.inr d) e2,c⟩,r⟩
 | own y=>obtain ⟨ob,e⟩:=x; exact ⟨ob,k _ _ (.inl rfl) e⟩
 | xd fs=>obtain ⟨mA,⟨od,es,ep,e,c⟩,r⟩:=x; exact ⟨mA,⟨od,es,ep,k _ _ (.inl rfl) e,c⟩,r⟩
 | rng lo hi=>obtain ⟨t,u,v,e⟩:=x; exact ⟨t,u,v,k _ _ (.inl rfl) e⟩
 | frz ob u ih=>obtain ⟨e,q⟩:=x; exact ⟨k _ _ (.inl rfl) e,ih q⟩
 | tbl ps =>
   have e:h.get? a=some { cls:=.none,data:=.fields ps }:=x;show h'.get? a=some { cls:=.none,data:=.fields ps };exact k a _ (.inl rfl) e
 | met f y =>
   have e:h.get? a=some (PySem.W.methodObj (.ref f) (.ref y)):=x;show h'.get? a=some (PySem.W.methodObj (.ref f) (.ref y));exact k a _ (.inl rfl) e
 | ext φ=>obtain ⟨p,⟨o,e⟩,st⟩:=x; exact ⟨st _ _ p λo q=>k _ _ (.inl rfl) q,⟨o,k _ _ (.inl rfl) e⟩,st⟩
theorem eG.lt (x:eG P w H h)(e:H a=some o):a < h.objs.size:=(x a o e).lt
theorem eG.fresh (x:eG P w H h)(e:h.objs.size<=a):H a=none:=by
 cases q:H a with
 | none=>rfl
 | some u=>exact absurd (Nat.lt_of_lt_of_le (x.lt q) e) (Nat.lt_irrefl _)
theorem eG.kept (x:eG P w H h)(k:∀ b u,h.get? b=some u->h'.get? b=some u):eG P w H h':=λa o e =>
 (x a o e).stay (λb u _ q=>k b u q) (λ_ q=>q) λ_ _ q=>q
theorem eG.laid (x:eG P w H h)(k:∀ b u,h.get? b=some u->h'.get? b=some u)(hp:h.objs.size<=a)(new:ba P w (upd H a o) h' a o):eG P w (upd H a o) h':=λb u e=>by
 have hn:=x.fresh hp
 by_cases hb:b=a
 ·subst hb; rw [ah] at e; cases e; exact new
 ·rw [ao hb] at e
  exact (x b u e).stay (λc v _ q=>k c v q) (λc q=>by rw [ao (au q hn)]; exact q) λc xs q=>by rw [ao (au q hn)]; exact q
end
noncomputable def Rd (H:Hp)(a:Addr)(u:HO):Prop:=H a=some u\/∃ o,H a=some (.frz o u)
theorem Rd.ok {P:Program}{w:World}{H:Hp}{h:Heap}{a:Addr}{u:HO}(r:Rd H a u)(x:eG P w H h):ba P w H h a u:=by
 rcases r with r | ⟨o,r⟩
 ·exact x a u r
 ·obtain ⟨_,q⟩:=x a _ r;exact q
noncomputable def CH:Option HO->Prop
 | some (.lst _)=>True
 | some (.dK _)=>True
 | some (.dT _)=>True
 | some (.set _ _)=>True
 | some (.ins _ _ _)=>True
 | some (.ext _)=>True
 | _=>False
section
variable {P:Program}{w:World}{H:Hp}{h h':Heap}{x e:Addr}{o':HO}
theorem eG.write (ok:eG P w H h)(mu:CH (H x))(he:e=x\/H e=some (.own x))(k:∀ b u,b≠e->h.get? b=some u->h'.get? b=some u)(Mu:∃ u,h'.get? e=some u)
 (new:ba P w (upd H x o') h' x o'):eG P w (upd H x o') h':=λb u q=>by
 have MZ:∀ c y,H c=some (.own y)->c≠x:=λc y r z=>by subst z; rw [r] at mu; exact mu
 have R7:∀ c xs,H c=some (.tup xs)->c≠x:=λc xs r z=>by subst z; rw [r] at mu; exact mu
 by_cases hb:b=x
 ·subst hb; rw [ah] at q; cases q; exact new
 ·rw [ao hb] at q
  by_cases Li:b=e
  ·have q':H b=some (.own x):=by
    rcases he with z | z
    ·exact absurd (Li.trans z) hb
    ·rw [Li]; exact z
   rw [q] at q'; cases q';obtain ⟨v,hv⟩:=Mu;exact ⟨v,by rw [Li]; exact hv⟩
  ·refine (ok b u q).stay (λc v hc r=>k c v ?_ r) (λc r=>by rw [ao (MZ c b r)]; exact r) λc xs r=>by rw [ao (R7 c xs r)]; exact r
   rcases hc with rfl | hc
   ·exact Li
   ·rintro rfl
    rcases he with z | z
    ·exact MZ c b hc z
    ·rw [hc] at z; cases z; exact hb rfl
end
structure Un (fs ex:List Addr)(H H':Hp)(h h':Heap):Prop where
 keep:∀ b o,h.get? b=some o->H b=none->b ∉ fs->b ∉ ex->h'.get? b=some o
 slot:∀ b o,h.get? b=some o->H b=none->b∈fs->b ∉ ex->∃ sl,h'.get? b=some { o with slots:=sl }
 free:∀ b o,h.get? b=some o->H b=none->b ∉ ex->H' b=none
 there:∀ b o,h.get? b=some o->b ∉ ex->∃ o',h'.get? b=some o'
 tups:∀ b xs,H b=some (.tup xs)->H' b=some (.tup xs)
 frzs:∀ b o u,H b=some (.frz o u)->H' b=some (.frz o u)
 tbls:∀ b ps,H b=some (.tbl ps)->∃ more,H' b=some (.tbl (ps++more))
section
variable {fs Yy ex ex':List Addr}{H H1 H2:Hp}{h h1 h2 h':Heap}{a x e:Addr}{o:HO}
theorem Un.any (u:Un fs ex H H1 h h1){b:Addr}{ob:Obj}(q:h.get? b=some ob)(n:H b=none)(hx:b ∉ ex):∃ sl,h1.get? b=some { ob with slots:=sl }:=by
 by_cases hb:b∈fs
 ·exact u.slot b ob q n hb hx
 ·exact ⟨ob.slots,u.keep b ob q n hb hx⟩
theorem Un.kept (k:∀ b u,h.get? b=some u->h'.get? b=some u):Un fs ex H H h h' :=
 ⟨λb ob q _ _ _=>k b ob q,λb ob q _ _ _=>⟨ob.slots,k b ob q⟩,λ_ _ _ n _=>n,λb ob q _=>⟨ob,k b ob q⟩,λ_ _ q=>q,λ_ _ _ q=>q,λ_ ps q=>⟨#[],by rw [q]; simp⟩⟩
theorem Un.refl:Un fs ex H H h h:=Un.kept λ_ _ q=>q
theorem Un.laid (k:∀ b u,h.get? b=some u->h'.get? b=some u)(hp:h.objs.size<=a)(hn:H a=none):Un fs ex H (upd H a o) h h' where
 keep:=λb u q _ _ _=>k b u q
 slot:=λb u q _ _ _=>⟨u.slots,k b u q⟩
 free:=λb u q n _=>by rw [ao (Nat.ne_of_lt (Nat.lt_of_lt_of_le (Heap.lt_size q) hp))]; exact n
 there:=λb u q _=>⟨u,k b u q⟩
 tups:=λb xs q=>by rw [ao (au q hn)]; exact q
 frzs:=λb u xs q=>by rw [ao (au q hn)]; exact q
 tbls:=λb ps q=>⟨#[],by rw [ao (au q hn),q]; simp⟩
theorem Un.write (mu:CH (H x))(he:e=x\/H e=some (.own x))(k:∀ b u,b≠e->h.get? b=some u->h'.get? b=some u)(Mu:∃ u,h'.get? e=some u):Un fs ex H (upd H x o) h h':=by
 have hx:∀ b,H b=none->b≠x:=λb n z=>by subst z; rw [n] at mu; exact mu
 have hb:∀ b,H b=none->b≠e:=λb n z=>by
  subst z
  rcases he with r | r
  ·exact hx b n r
  ·rw [n] at r; cases r
 have hm:∀ b u,H b=some u->¬ CH (some u)->b≠x:=λb u q nm z=>by subst z; rw [q] at mu; exact nm mu
 refine ⟨λb u q n _ _=>k b u (hb b n) q,λb u q n _ _=>⟨u.slots,k b u (hb b n) q⟩,λb u q n _=>by rw [ao (hx b n)]; exact n,λb u q _=>?_,
  λb xs q=>by rw [ao (hm b _ q λz=>z)]; exact q,λb u xs q=>by rw [ao (hm b _ q λz=>z)]; exact q,λb ps q=>⟨#[],by rw [ao (hm b _ q λz=>z),q]; simp⟩⟩
 by_cases Li:b=e
 ·subst Li; exact Mu
 ·exact ⟨u,k b u Li q⟩
end
noncomputable def DL (h:Heap)(H:Hp):List Addr:=(List.range h.objs.size).filter λa=>(H a).isSome
noncomputable def kU (h:Heap)(H:Hp):Heap:=PySem.W.hideAll h (DL h H)
theorem uw (h:Heap)(H:Hp):(kU h H).objs.size=h.objs.size:=PySem.W.hideAll_size _ _
theorem xI {h:Heap}{H:Hp}{b:Addr}{o:Obj}(e:h.get? b=some o)(n:H b=none):(kU h H).get? b=some o :=
 PySem.W.hideAll_get _ e λhm=>by
  have q:(H b).isSome=true:=(List.mem_filter.mp hm).2;rw [n] at q; simp at q
theorem zS {h:Heap}{H:Hp}{b:Addr}{o:Obj}(e:(kU h H).get? b=some o):h.get? b=some o/\H b=none:=by
 have e':h.get? b=some o:=PySem.W.of_hideAll (DL h H) e;refine ⟨e',?_⟩
 cases q:H b with
 | none=>rfl
 | some x =>
   have hm:b∈DL h H:=List.mem_filter.mpr ⟨List.mem_range.mpr (Heap.lt_size e'),by simp [q]⟩;have z:(kU h H).get? b=none:=PySem.W.hideAll_none (DL h H) hm;rw [z] at e; cases e
structure Mod (K:PySem.W.Frag)(mg:Str->Option Value)(base:Heap):Prop where
 kin:K.In base
 glob:base.Ns mainGlobals mg
 blt:∃ mb,base.Ns builtinsNs mb/\∀ x:Str,x ≠ "__name__"->mb x=bootBuiltins x
 nolimit:base.NoLimit
structure Cx where
 prog:Program
 w:World
 K:PySem.W.Frag
 mg:Str->Option Value
 base:Heap
 A:Around
 N:List Str
 s₀:Shared
 H₀:Hp
 env:Env
 outer:List Env
 stack:List Env
 ex:List Addr
 fn:Str->Bool
 calm:Bool
 pn:List (Addr × Obj)
 xe:Value->Shared->Prop
noncomputable def df (l:List Env):List Addr:=l.filterMap (·.frame)
noncomputable abbrev Cx.fs (X:Cx):List Addr:=df X.outer
noncomputable def DH (sc:Scope)(x:Str):Prop:=sc.names.lookup x=some .local\/sc.names.lookup x=some .cell\/sc.names.lookup x=some .free
noncomputable def Df (sc:Scope)(x:Str):Prop:=sc.names.lookup x=some .local\/sc.names.lookup x=some .cell
noncomputable def Eh (env:Env)(h:Heap)(m:Str->Option Value)(x:Str)(u:Value):Prop :=
 (env.kindOf x=some .local/\m x=some u)\/((env.kindOf x=some .cell\/env.kindOf x=some .free)/\∃ c,env.cells.lookup x=some c/\h.IsCell c (some u))
structure Cx.Ok (X:Cx):Prop where
 mod:Mod X.K X.mg X.base
 kind:X.env.scope.kind = .function
 glob:X.env.globals=mainGlobals
 blt:X.env.builtins=builtinsNs
 above:X.s₀.heap.objs.size<=X.env.locals
 inj:∀ x y c,X.env.cells.lookup x=some c->X.env.cells.lookup y=some c->x=y
 has:∀ x,(X.env.kindOf x=some .cell\/X.env.kindOf x=some .free)->∃ c,X.env.cells.lookup x=some c
 cab:∀ x c,X.fn x=true->X.env.cells.lookup x=some c->X.s₀.heap.objs.size<=c
 hd:X.calm=true->X.A.handled=none
 frames:X.A.frames=some X.stack
 stk:X.stack=X.outer\/(X.stack=X.env :: X.outer/\X.env.frame=some X.env.locals)
 exf:∀ b∈X.ex,b≠X.env.locals/\∀ x c,X.env.cells.lookup x=some c->c≠b
 bs:∀ b o,X.base.get? b=some o->X.s₀.heap.get? b=some o/\X.H₀ b=none
 bsz:X.base.objs.size<=X.s₀.heap.objs.size
 noex:∀ b o,X.base.get? b=some o->b ∉ X.ex
 exfs:∀ b∈X.ex,b ∉ X.fs
 funs:X.s₀.heap.FunFrames X.base X.outer
 frf:∀ b∈X.fs,X.H₀ b=none
structure Inv (X:Cx)(pins:List (Addr × Obj))(σ:List (Option V))(H:Hp)(s:Shared):Prop where
 ok:X.Ok
 os:s.os=X.s₀.os
 bare:AllBare s.gens
 base:Un X.fs X.ex X.H₀ H X.s₀.heap s.heap
 loc:∃ m,s.heap.Ns X.env.locals m/\∀ (i:Nat)(x:Str)(v:V),X.N[i]?=some x->σ[i]?=some (some v)->DH X.env.scope x->∃ u,aC v u/\Eh X.env s.heap m x u
 cell:∀ x c,X.env.cells.lookup x=some c->∃ v,s.heap.IsCell c v
 free:H X.env.locals=none
 freeC:∀ x c,X.env.cells.lookup x=some c->H c=none
 pin:∀ p∈X.pn++pins,s.heap.get? p.1=some p.2/\H p.1=none/\p.1≠X.env.locals/\p.1 ∉ X.fs/\∀ v,p.2.data ≠ .cell v
 hok:eG X.prog X.w H s.heap
 len:σ.length=X.N.length
section
variable {X:Cx}{pins:List (Addr × Obj)}{σ:List (Option V)}{H H':Hp}{s:Shared}{h':Heap}
theorem Cx.Ok.nofr (ok:X.Ok){b:Addr}{o:Obj}(e:X.base.get? b=some o):b ∉ X.fs:=λhb=>by
 have:=(ok.funs.mem hb).1;rw [e] at this; cases this
theorem Inv.bs (I:Inv X pins σ H s):∀ b o,X.base.get? b=some o->s.heap.get? b=some o/\H b=none:=λb o e =>
 ⟨I.base.keep b o (I.ok.bs b o e).1 (I.ok.bs b o e).2 (I.ok.nofr e) (I.ok.noex b o e),I.base.free b o (I.ok.bs b o e).1 (I.ok.bs b o e).2 (I.ok.noex b o e)⟩
theorem Inv.bk (I:Inv X pins σ H s):∀ b o,X.base.get? b=some o->s.heap.get? b=some o:=λb o e=>(I.bs b o e).1
theorem Inv.mod (I:Inv X pins σ H s):Mod X.K X.mg X.base:=I.ok.mod
theorem Inv.kIn (I:Inv X pins σ H s):X.K.In s.heap:=I.ok.mod.kin.keeps I.bk
theorem Inv.fr (I:Inv X pins σ H s):∃ m,Fr X.base X.env.locals s.heap m :=
 let ⟨m,hn,_⟩:=I.loc
 ⟨m,hn,I.bk,Nat.le_trans I.ok.bsz I.ok.above⟩
theorem Inv.lt (I:Inv X pins σ H s):X.env.locals < s.heap.objs.size:=let ⟨_,hn,_⟩:=I.loc; hn.lt
theorem Inv.sz (I:Inv X pins σ H s):X.s₀.heap.objs.size<=s.heap.objs.size:=Nat.le_trans I.ok.above (Nat.le_of_lt I.lt)
theorem Inv.nofs (I:Inv X pins σ H s){a:Addr}(h:s.heap.objs.size<=a):a ∉ X.fs:=λhb=>by
 obtain ⟨_,o,ho,_⟩:=I.ok.funs.mem hb;exact absurd (Nat.lt_of_lt_of_le (Heap.lt_size ho) (Nat.le_trans I.sz h)) (Nat.lt_irrefl _)
theorem Inv.cne (I:Inv X pins σ H s):∀ x c,X.env.cells.lookup x=some c->c≠X.env.locals:=λx c e z=>by
 obtain ⟨v,o,ho,hd⟩:=I.cell x c e;obtain ⟨m,⟨o',es,ep,FZ,R8,_⟩,_⟩:=I.loc;rw [z,FZ] at ho; cases ho; rw [R8] at hd; cases hd
theorem Inv.funs (I:Inv X pins σ H s):s.heap.FunFrames X.base X.outer:=by
 have all:∀ (l:List Env),(∀ b∈df l,b∈X.fs)->X.s₀.heap.FunFrames X.base l->s.heap.FunFrames X.base l:=by
  intro l
  induction l with
  | nil=>intro _ _; trivial
  | cons env r ih =>
    intro hs hl;obtain ⟨hk,⟨L,o,hf,hn,ho,hd⟩,hr⟩:=hl;have hL:L∈X.fs:=hs L (by unfold df; rw [List.filterMap_cons,hf]; exact List.mem_cons_self);obtain ⟨sl,e⟩:=I.base.slot L o ho (I.ok.frf L hL) hL λz=>I.ok.exfs L z hL;exact ⟨hk,⟨L,_,hf,hn,e,hd⟩,ih (λb hb=>hs b (by unfold df; rw [List.filterMap_cons,hf]; exact List.mem_cons_of_mem _ hb)) hr⟩
 exact all X.outer (λ_ hb=>hb) I.ok.funs
theorem Inv.stack (I:Inv X pins σ H s):s.heap.FunFrames X.base X.stack:=by
 rcases I.ok.stk with e | ⟨e,hf⟩
 ·rw [e]; exact I.funs
 ·rw [e];obtain ⟨m,hn,_⟩:=I.loc;refine .cons (by rw [I.ok.kind]; decide) hf hn ?_ I.funs;exact Heap.get?_none_of_le (Nat.le_trans I.ok.bsz I.ok.above)
theorem Inv.stkSub (I:Inv X pins σ H s):∀ b∈df X.stack,b∈X.env.locals :: X.fs:=λb hb=>by
 rcases I.ok.stk with e | ⟨e,hf⟩
 ·rw [e] at hb; exact List.mem_cons_of_mem _ hb
 ·rw [e] at hb;unfold df at hb;rw [List.filterMap_cons,hf] at hb;exact hb
theorem Inv.stkFree (I:Inv X pins σ H s):∀ b∈df X.stack,H b=none:=λb hb=>by
 rcases List.mem_cons.mp (I.stkSub b hb) with e | hb
 ·rw [e]; exact I.free
 ·obtain ⟨_,o,ho,_⟩:=I.ok.funs.mem hb;exact I.base.free b o ho (I.ok.frf b hb) λz=>I.ok.exfs b z hb
theorem Inv.step {g':Array GenState}{t':Nat}{d':Drawn}{ch:List Addr}(I:Inv X pins σ H s)
 (IU:∀ b∈ch,(b∈X.ex\/X.s₀.heap.objs.size<=b)/\b≠X.env.locals/\(∀ x c,X.env.cells.lookup x=some c->c≠b)/\∀ p∈X.pn++pins,p.1≠b)
 (keep:∀ b o,b≠X.env.locals->b ∉ X.fs->b ∉ ch->s.heap.get? b=some o->H b=none->h'.get? b=some o)
 (slot:∀ b o,b≠X.env.locals->b∈X.fs->b ∉ ch->s.heap.get? b=some o->H b=none->∃ sl,h'.get? b=some { o with slots:=sl })(free:∀ b o,b ∉ ch->s.heap.get? b=some o->H b=none->H' b=none)
 (there:∀ b o,b ∉ ch->s.heap.get? b=some o->∃ o',h'.get? b=some o')
 (tups:∀ b xs,H b=some (.tup xs)->H' b=some (.tup xs))(frzs:∀ b o u,H b=some (.frz o u)->H' b=some (.frz o u))(tbls:∀ b ps,H b=some (.tbl ps)->∃ more,H' b=some (.tbl (ps++more)))
 (ns:∀ m,s.heap.Ns X.env.locals m->h'.Ns X.env.locals m)(hok:eG X.prog X.w H' h')(hg:AllBare g'):
 Inv X pins σ H' { s with heap:=h',gens:=g',drawn:=d',toks:=t' }:=by
 have Wk:∀ b o,X.s₀.heap.get? b=some o->b≠X.env.locals:=λb o e=>Nat.ne_of_lt (Nat.lt_of_lt_of_le (Heap.lt_size e) I.ok.above)
 have Ri:∀ b o,X.s₀.heap.get? b=some o->b ∉ X.ex->b ∉ ch:=λb o e hx hb=>by
  rcases (IU b hb).1 with z | z
  ·exact hx z
  ·exact absurd (Nat.lt_of_lt_of_le (Heap.lt_size e) z) (Nat.lt_irrefl _)
 have cellK:∀ x c,X.env.cells.lookup x=some c->∀ v,s.heap.IsCell c v->h'.IsCell c v:=λx c e v ⟨o,ho,hd⟩=>by
  have M0:c ∉ ch:=λz=>(IU c z).2.2.1 x c e rfl
  by_cases hc:c∈X.fs
  ·obtain ⟨sl,q⟩:=slot c o (I.cne x c e) hc M0 ho (I.freeC x c e);exact ⟨_,q,hd⟩
  ·exact ⟨o,keep c o (I.cne x c e) hc M0 ho (I.freeC x c e),hd⟩
 refine ⟨I.ok,I.os,hg,⟨λb o e n hb hx=>?_,λb o e n hb hx=>?_,λb o e n hx=>?_,λb o e hx=>?_,λb xs e=>tups b xs (I.base.tups b xs e),λb o xs e=>frzs b o xs (I.base.frzs b o xs e),λb ps e=>?_⟩,?_,λx c e=>?_,?_,λx c e=>?_,λp hp=>?_,hok,I.len⟩
 ·exact keep b o (Wk b o e) hb (Ri b o e hx) (I.base.keep b o e n hb hx) (I.base.free b o e n hx)
 ·obtain ⟨sl,e1⟩:=I.base.slot b o e n hb hx;obtain ⟨Hu,e2⟩:=slot b _ (Wk b o e) hb (Ri b o e hx) e1 (I.base.free b o e n hx);exact ⟨Hu,e2⟩
 ·obtain ⟨o',e1⟩:=I.base.there b o e hx;exact free b o' (Ri b o e hx) e1 (I.base.free b o e n hx)
 ·obtain ⟨o',e1⟩:=I.base.there b o e hx;exact there b o' (Ri b o e hx) e1
 ·obtain ⟨m1,e1⟩:=I.base.tbls b ps e;obtain ⟨m2,e2⟩:=tbls b _ e1;exact ⟨m1++m2,by rw [e2,Array.append_assoc]⟩
 ·obtain ⟨m,hn,hl⟩:=I.loc;refine ⟨m,ns m hn,λi x v e1 e2 e3=>?_⟩;obtain ⟨u,r,l⟩:=hl i x v e1 e2 e3;refine ⟨u,r,?_⟩
  rcases l with l | ⟨k,c,e,z⟩
  ·exact .inl l
  ·exact .inr ⟨k,c,e,cellK x c e _ z⟩
 ·obtain ⟨v,z⟩:=I.cell x c e;exact ⟨v,cellK x c e v z⟩
 ·obtain ⟨m,⟨o,_,_,ho,_⟩,_⟩:=I.loc;exact free _ o (λz=>(IU _ z).2.1 rfl) ho I.free
 ·obtain ⟨v,o,ho,hd⟩:=I.cell x c e;exact free c o (λz=>(IU c z).2.2.1 x c e rfl) ho (I.freeC x c e)
 ·obtain ⟨e,n,ne,nf,d⟩:=I.pin p hp;have M0:p.1 ∉ ch:=λz=>(IU p.1 z).2.2.2 p hp rfl;exact ⟨keep p.1 p.2 ne nf M0 e n,free p.1 p.2 M0 e n,ne,nf,d⟩
theorem Inv.un {t':Nat}(I:Inv X pins σ H s)(u:Un X.fs [] H H' s.heap h')(hok:eG X.prog X.w H' h'):Inv X pins σ H' { s with heap:=h',toks:=t' }:=by
 obtain ⟨m,⟨o,es,ep,ho,r⟩,_⟩:=id I.loc;obtain ⟨sl,hL⟩:=u.any ho I.free (by simp)
 exact I.step (g':=s.gens) (d':=s.drawn) (ch:=[]) (λ_ z=>nomatch z) (λb o _ hb _ e n=>u.keep b o e n hb (by simp)) (λb o _ hb _ e n=>u.slot b o e n hb (by simp)) (λb o _ e n=>u.free b o e n (by simp)) (λb o _ e=>u.there b o e (by simp)) u.tups u.frzs u.tbls (λm' hm=>by
  obtain ⟨o',es',Lj,FZ,r'⟩:=hm;rw [ho] at FZ; cases FZ
  exact ⟨_,es',Lj,hL,r'⟩) hok I.bare
theorem Inv.call {g':Array GenState}{t':Nat}{d':Drawn}{ch:List Addr}(I:Inv X pins σ H s)(u:Un (df X.stack) ch H H' s.heap h')(hok:eG X.prog X.w H' h')(hg:AllBare g')
 (IU:∀ b∈ch,(b∈X.ex\/X.s₀.heap.objs.size<=b)/\b≠X.env.locals/\(∀ x c,X.env.cells.lookup x=some c->c≠b)/\∀ p∈X.pn++pins,p.1≠b):
 Inv X pins σ H' { s with heap:=h',gens:=g',drawn:=d',toks:=t' }:=by
 obtain ⟨m,⟨o,es,ep,ho,r⟩,_⟩:=id I.loc;obtain ⟨sl,hL⟩:=u.any ho I.free λz=>(IU _ z).2.1 rfl
 exact I.step (ch:=ch) IU (λb o hL hb hc e n=>u.keep b o e n (λz=>(List.mem_cons.mp (I.stkSub b z)).elim hL hb) hc) (λb o _ _ hc e n=>u.any e n hc) (λb o hc e n=>u.free b o e n hc) (λb o hc e=>u.there b o e hc) u.tups u.frzs u.tbls (λm' hm=>by
  obtain ⟨o',es',Lj,FZ,r'⟩:=hm;rw [ho] at FZ; cases FZ
  exact ⟨_,es',Lj,hL,r'⟩) hok hg
theorem Inv.turned {t':Nat}{it:Addr}(I:Inv X pins σ H s)(k:∀ b o,b≠it->s.heap.get? b=some o->h'.get? b=some o)(hn:H it=none)(hL:it≠X.env.locals)
 (h1:it∈X.ex\/X.s₀.heap.objs.size<=it)(h2:∀ x c,X.env.cells.lookup x=some c->c≠it)(h3:∀ p∈X.pn++pins,p.1≠it):Inv X pins σ H { s with heap:=h',toks:=t' }:=by
 have JH:∀ b u,H b=some u->b≠it:=λb u e z=>by rw [z,hn] at e; cases e
 refine I.step (g':=s.gens) (d':=s.drawn) (ch:=[it]) (λb hb=>?_) (λb o _ _ hc e _=>k b o (λz=>hc (by simp [z])) e) (λb o _ _ hc e _=>⟨o.slots,k b o (λz=>hc (by simp [z])) e⟩) (λ_ _ _ _ n=>n)
  (λb o hc e=>⟨o,k b o (λz=>hc (by simp [z])) e⟩) (λ_ _ e=>e) (λ_ _ _ e=>e) (λb ps e=>⟨#[],by rw [e]; simp⟩) (λm hm=>?_) (λb u e=>?_) I.bare
 ·have e:b=it:=by simpa using hb
  subst e;exact ⟨h1,hL,h2,h3⟩
 ·obtain ⟨o,es,ep,ho,r⟩:=hm;exact ⟨o,es,ep,k _ o (Ne.symm hL) ho,r⟩
 ·refine (I.hok b u e).stay (λc v hc q=>k c v ?_ q) (λ_ q=>q) λ_ _ q=>q
  rcases hc with z | z
  ·rw [z]; exact JH b u e
  ·exact JH c _ z
theorem Inv.tok (I:Inv X pins σ H s)(t:Nat):Inv X pins σ H { s with toks:=t }:=I.un (h':=s.heap) (t':=t) Un.refl I.hok
theorem Inv.kept {t':Nat}(I:Inv X pins σ H s)(k:∀ b u,s.heap.get? b=some u->h'.get? b=some u):Inv X pins σ H { s with heap:=h',toks:=t' }:=I.un (Un.kept k) (I.hok.kept k)
theorem Inv.laid {a:Addr}{o:HO}{t':Nat}(I:Inv X pins σ H s)(k:∀ b u,s.heap.get? b=some u->h'.get? b=some u)(hp:s.heap.objs.size<=a)(new:ba X.prog X.w (upd H a o) h' a o):
 Inv X pins σ (upd H a o) { s with heap:=h',toks:=t' }:=I.un (Un.laid k hp (I.hok.fresh hp)) (I.hok.laid k hp new)
theorem Inv.write {x e:Addr}{o:HO}{t':Nat}(I:Inv X pins σ H s)(mu:CH (H x))(he:e=x\/H e=some (.own x))(k:∀ b u,b≠e->s.heap.get? b=some u->h'.get? b=some u)(Mu:∃ u,h'.get? e=some u)
 (new:ba X.prog X.w (upd H x o) h' x o):Inv X pins σ (upd H x o) { s with heap:=h',toks:=t' }:=I.un (Un.write mu he k Mu) (I.hok.write mu he k Mu new)
theorem Inv.pins_of {pins':List (Addr × Obj)}(I:Inv X pins σ H s)(h:∀ p∈pins',s.heap.get? p.1=some p.2/\H p.1=none/\p.1≠X.env.locals/\p.1 ∉ X.fs/\∀ v,p.2.data ≠ .cell v):Inv X pins' σ H s :=
 ⟨I.ok,I.os,I.bare,I.base,I.loc,I.cell,I.free,I.freeC,λp hp=>(List.mem_append.mp hp).elim (λz=>I.pin p (List.mem_append_left _ z)) (h p),I.hok,I.len⟩
theorem jr {N:List Str}(hN:N.Nodup){i j:Nat}{x:Str}(a:N[i]?=some x)(b:N[j]?=some x):i=j:=by
 obtain ⟨h1,e1⟩:=List.getElem?_eq_some_iff.mp a;obtain ⟨h2,e2⟩:=List.getElem?_eq_some_iff.mp b;exact (List.getElem_inj hN).mp (e1.trans e2.symm)
theorem lJ {M:Model}{A:Around}{E:Value->Shared->Prop}{i:Nat}{x:Str}{v:V}{u:Value}{Q:Unit->Shared->Prop}(I:Inv X pins σ H s)(hN:X.N.Nodup)(hi:X.N[i]?=some x)(hx:Df X.env.scope x)(r:aC v u)
 (h:∀ s',Inv X pins (σ.set i (some v)) H s'->(∃ a,Heap.SameBut a s.heap s'.heap/\(a=X.env.locals\/X.env.cells.lookup x=some a))->Q () s')(hf:X.fn x=true\/X.env.scope.names.lookup x=some .local:=by first | exact .inl rfl | exact .inr rfl | assumption):wpAny M A (storeName X.env x u) Q E s:=by
 obtain ⟨m,hn,hl⟩:=id I.loc
 have Sa:(X.env.scope.kind == .class || (X.env.scope.kind == .module&&X.env.locals != X.env.globals))=false:=by rw [I.ok.kind]; rfl
 have Wl:i < σ.length:=by rw [I.len]; exact (List.getElem?_eq_some_iff.mp hi).1
 have cne:=I.cne
 have tracked:∀ {a:Addr}{h':Heap},(∃ o,s.heap.get? a=some o/\H a=none)->Heap.SameBut a s.heap h'->eG X.prog X.w H h':=λ{a h'} ha hs b ob e=>by
  obtain ⟨_,_,Fz⟩:=ha;refine (I.hok b ob e).stay (λc w' hc q=>(hs.2 c ?_).trans q) (λ_ q=>q) λ_ _ q=>q;rintro rfl
  rcases hc with rfl | hc
  ·rw [Fz] at e; cases e
  ·rw [Fz] at hc; cases hc
 rcases hx with hk | hk
 ·refine wpAny_storeName_local hk hn (λh' Sb hs=>?_) Sa;obtain ⟨oL,_,_,Yz,_⟩:=id hn;refine h _ ⟨I.ok,I.os,I.bare,⟨λb o e n hb hx=>?_,λb o e n hb hx=>?_,I.base.free,λb o e hx=>?_,I.base.tups,I.base.frzs,I.base.tbls⟩,⟨_,Sb,λj y v' e1 e2 e3=>?_⟩,λy c e=>?_,I.free,I.freeC,λp hp=>?_,tracked ⟨oL,Yz,I.free⟩ hs,by simpa using I.len⟩ ⟨_,hs,.inl rfl⟩
  ·exact (hs.2 b (Nat.ne_of_lt (Nat.lt_of_lt_of_le (Heap.lt_size e) I.ok.above))).trans (I.base.keep b o e n hb hx)
  ·obtain ⟨sl,e1⟩:=I.base.slot b o e n hb hx;exact ⟨sl,(hs.2 b (Nat.ne_of_lt (Nat.lt_of_lt_of_le (Heap.lt_size e) I.ok.above))).trans e1⟩
  ·obtain ⟨o',e1⟩:=I.base.there b o e hx;exact ⟨o',(hs.2 b (Nat.ne_of_lt (Nat.lt_of_lt_of_le (Heap.lt_size e) I.ok.above))).trans e1⟩
  ·by_cases hj:j=i
   ·subst hj;rw [hi] at e1; cases e1;rw [List.getElem?_set_self Wl] at e2
    cases e2
    exact ⟨u,r,.inl ⟨hk,by simp⟩⟩
   ·rw [List.getElem?_set_ne (Ne.symm hj)] at e2;obtain ⟨u',r',q⟩:=hl j y v' e1 e2 e3;refine ⟨u',r',?_⟩
    rcases q with ⟨k,e⟩ | ⟨k,c,e,z⟩
    ·refine .inl ⟨k,?_⟩;have:y≠x:=λe=>hj (jr hN e1 (e ▸ hi));simp [this,e]
    ·exact .inr ⟨k,c,e,z.sameBut hs (cne y c e)⟩
  ·obtain ⟨w',z⟩:=I.cell y c e;exact ⟨w',z.sameBut hs (cne y c e)⟩
  ·obtain ⟨e,n,ne,nf,d⟩:=I.pin p hp;exact ⟨(hs.2 p.1 ne).trans e,n,ne,nf,d⟩
 ·have Sd:X.fn x=true:=by
   rcases hf with z | z
   ·exact z
   ·rw [z] at hk; cases hk
  obtain ⟨c,hc⟩:=I.ok.has x (.inl hk);obtain ⟨w',z⟩:=I.cell x c hc;refine wpAny_storeName_cell I.ok.kind hk hc z (λh' Fi hs=>?_);obtain ⟨oc,Fy,Se⟩:=id z;refine h { s with heap:=h' } ⟨I.ok,I.os,I.bare,⟨λb o e n hb hx=>?_,λb o e n hb hx=>?_,I.base.free,λb o e hx=>?_,I.base.tups,I.base.frzs,I.base.tbls⟩,⟨m,hn.sameBut hs (Ne.symm (cne x c hc)),λj y v' e1 e2 e3=>?_⟩,λy c' e=>?_,I.free,I.freeC,λp hp=>?_,tracked ⟨oc,Fy,I.freeC x c hc⟩ hs,by simpa using I.len⟩ ⟨c,hs,.inr hc⟩
  ·exact (hs.2 b (Nat.ne_of_lt (Nat.lt_of_lt_of_le (Heap.lt_size e) (I.ok.cab x c Sd hc)))).trans (I.base.keep b o e n hb hx)
  ·obtain ⟨sl,e1⟩:=I.base.slot b o e n hb hx;exact ⟨sl,(hs.2 b (Nat.ne_of_lt (Nat.lt_of_lt_of_le (Heap.lt_size e) (I.ok.cab x c Sd hc)))).trans e1⟩
  ·obtain ⟨o',e1⟩:=I.base.there b o e hx;exact ⟨o',(hs.2 b (Nat.ne_of_lt (Nat.lt_of_lt_of_le (Heap.lt_size e) (I.ok.cab x c Sd hc)))).trans e1⟩
  ·by_cases hj:j=i
   ·subst hj;rw [hi] at e1; cases e1;rw [List.getElem?_set_self Wl] at e2
    cases e2
    exact ⟨u,r,.inr ⟨.inl hk,c,hc,Fi⟩⟩
   ·rw [List.getElem?_set_ne (Ne.symm hj)] at e2;obtain ⟨u',r',q⟩:=hl j y v' e1 e2 e3;refine ⟨u',r',?_⟩
    rcases q with q | ⟨k,c',e,z'⟩
    ·exact .inl q
    ·refine .inr ⟨k,c',e,z'.sameBut hs ?_⟩;rintro rfl;exact hj (jr hN e1 (I.ok.inj _ _ _ e hc ▸ hi))
  ·by_cases Rj:c'=c
   ·subst Rj; exact ⟨_,Fi⟩
   ·obtain ⟨w2,z2⟩:=I.cell y c' e;exact ⟨w2,z2.sameBut hs Rj⟩
  ·obtain ⟨e,n,ne,nf,d⟩:=I.pin p hp;refine ⟨(hs.2 p.1 ?_).trans e,n,ne,nf,d⟩;intro q;rw [q,Fy] at e;have q':oc=p.2:=Option.some.inj e;exact d w' (by rw [<-q']; exact Se)
theorem fM {M:Model}{A:Around}{E:Value->Shared->Prop}{i:Nat}{x:Str}{v:V}{u:Value}{Q:Unit->Shared->Prop}(I:Inv X pins σ H s)(hN:X.N.Nodup)(hi:X.N[i]?=some x)(hx:Df X.env.scope x)(r:aC v u)
 (h:∀ s',Inv X pins (σ.set i (some v)) H s'->Q () s')(hf:X.fn x=true\/X.env.scope.names.lookup x=some .local:=by first | exact .inl rfl | exact .inr rfl | assumption):wpAny M A (storeName X.env x u) Q E s :=
 lJ I hN hi hx r (λs' I' _=>h s' I') hf
theorem Inv.call' {s':Shared}{ch:List Addr}(I:Inv X pins σ H s)(ho:s'.os=s.os)(u:Un (df X.stack) ch H H' s.heap s'.heap)(hok:eG X.prog X.w H' s'.heap)(hg:AllBare s'.gens)
 (IU:∀ b∈ch,(b∈X.ex\/X.s₀.heap.objs.size<=b)/\b≠X.env.locals/\(∀ x c,X.env.cells.lookup x=some c->c≠b)/\∀ p∈X.pn++pins,p.1≠b):Inv X pins σ H' s':=by
 obtain ⟨h',g',d',t',o'⟩:=s';have e:o'=s.os:=ho;subst e;exact I.call (g':=g') (t':=t') (d':=d') u hok hg IU
end
noncomputable abbrev XK:=Value->Option Addr->Hp->Prop
noncomputable abbrev St:=List (Option V)
noncomputable abbrev VK:=V->Hp->Prop
noncomputable abbrev TE:=St->Hp->VK->Prop
noncomputable abbrev TT:=St->Hp->(Bool->Hp->Prop)->Prop
noncomputable abbrev TA:=St->Hp->(List V->Hp->Prop)->Prop
structure Ends where
 nx:St->Hp->Prop
 rt:VK
 bk:St->Hp->Prop:=λ_ _=>False
 ct:St->Hp->Prop:=λ_ _=>False
noncomputable abbrev TS:=Ends->St->Hp->Prop
noncomputable def EP (X:Cx)(pins:List (Addr × Obj))(σ:St)(Q:VK)(u:Value)(s':Shared):Prop:=∃ v H',Inv X pins σ H' s'/\aC v u/\Q v H'
noncomputable def TP (X:Cx)(pins:List (Addr × Obj))(σ:St)(Q:Bool->Hp->Prop)(b:Bool)(s':Shared):Prop:=∃ H',Inv X pins σ H' s'/\Q b H'
noncomputable def AP (X:Cx)(pins:List (Addr × Obj))(σ:St)(Q:List V->Hp->Prop)(us:List Value)(s':Shared):Prop:=∃ vs H',Inv X pins σ H' s'/\aK vs us/\Q vs H'
noncomputable def SP (X:Cx)(pins:List (Addr × Obj))(D:Ends)(f:Flow)(s':Shared):Prop :=
 match f with
 | .next=>∃ σ' H',Inv X pins σ' H' s'/\D.nx σ' H'
 | .brk=>∃ σ' H',Inv X pins σ' H' s'/\D.bk σ' H'
 | .cont=>∃ σ' H',Inv X pins σ' H' s'/\D.ct σ' H'
 | .ret u=>∃ v σ' H',Inv X pins σ' H' s'/\aC v u/\D.rt v H'
noncomputable def PE (X:Cx)(e:Expr)(t:TE):Prop :=
 ∀ (pins:List (Addr × Obj))(s:Shared)(σ:St)(H:Hp)(Q:VK),Inv X pins σ H s->t σ H Q->wpAny (model X.prog X.w) X.A (eval e X.env) (EP X pins σ Q) X.xe s
noncomputable def PT (X:Cx)(e:Expr)(t:TT):Prop :=
 ∀ (pins:List (Addr × Obj))(s:Shared)(σ:St)(H:Hp)(Q:Bool->Hp->Prop),Inv X pins σ H s->t σ H Q->wpAny (model X.prog X.w) X.A (isTrue e X.env (eval e X.env)) (TP X pins σ Q) X.xe s
noncomputable def PW (X:Cx)(e:Expr)(t:TT):Prop :=
 ∀ (dt:Sem Value)(pins:List (Addr × Obj))(s:Shared)(σ:St)(H:Hp)(Q:Bool->Hp->Prop),Inv X pins σ H s->t σ H Q->wpAny (model X.prog X.w) X.A (isTrue e X.env dt) (TP X pins σ Q) X.xe s
theorem PW.pt {X:Cx}{e:Expr}{t:TT}(h:PW X e t):PT X e t:=h _
noncomputable def PA (X:Cx)(es:List Expr)(t:TA):Prop :=
 ∀ (pos:Pos)(pins:List (Addr × Obj))(s:Shared)(σ:St)(H:Hp)(Q:List V->Hp->Prop),Inv X pins σ H s->t σ H Q->wpAny (model X.prog X.w) X.A (spliced (backTo pos (starEach es X.env))) (AP X pins σ Q) X.xe s
noncomputable def PS (X:Cx)(st:Stmt)(t:TS):Prop :=
 ∀ (pins:List (Addr × Obj))(s:Shared)(σ:St)(H:Hp)(D:Ends),Inv X pins σ H s->t D σ H->wpAny (model X.prog X.w) X.A (exec st X.env) (SP X pins D) X.xe s
noncomputable def iX (X:Cx)(st:List Stmt)(t:TS):Prop :=
 ∀ (pins:List (Addr × Obj))(s:Shared)(σ:St)(H:Hp)(D:Ends),Inv X pins σ H s->t D σ H->wpAny (model X.prog X.w) X.A (execs st X.env) (SP X pins D) X.xe s
theorem bR {α:Type}{t:Sem α}{Q Q':α->Shared->Prop}{M:Model}{A:Around}{E:Value->Shared->Prop}{s:Shared}(h:wpAny M A t Q E s)(hQ:∀ a s,Q a s->Q' a s):wpAny M A t Q' E s:=wpAny_mono h hQ λ_ _ x=>x
section
variable {X:Cx}
noncomputable def gH (i:Nat):TE:=λσ H Q=>∃ v,σ[i]?=some (some v)/\Q v H
noncomputable def tC (v:V):TE:=λ_ H Q=>Q v H
theorem BC {i:Nat}{x:Str}{pos:Pos}(hN:X.N[i]?=some x)(hv:DH X.env.scope x)(hd:(x == ("__debug__":Str))=false:=by decide)(F7:(x == ("__classdict__":Str))=false:=by decide):PE X (.Name x pos) (gH i):=by
 intro pins s σ H Q I h;obtain ⟨v,e,h⟩:=h;obtain ⟨m,hn,hl⟩:=I.loc;obtain ⟨u,r,l⟩:=hl i x v hN e hv;have fin:EP X pins σ Q u s:=⟨v,H,I,r,h⟩
 rcases l with ⟨hk,hm⟩ | ⟨hk,c,hc,Fu⟩
 ·exact wpAny_Name (wpAny_loadName_local I.ok.kind hk hn hm fin) hd
 ·rcases hk with hk | hk
  ·exact wpAny_Name (wpAny_loadName_cell I.ok.kind hk hc Fu fin) hd
  ·exact wpAny_Name (wpAny_loadName_free I.ok.kind hk hc Fu fin F7) hd
theorem aj {i j pos}:PE X (.Constant (.int i) j pos) (tC (.int i)):=λ_ _ _ H _ I h=>wpAny_Constant_int ⟨.int i,H,I.tok _,⟨_,rfl⟩,h⟩
theorem cU {b j pos}:PE X (.Constant (.bool b) j pos) (tC (.bl b)):=λ_ _ _ H _ I h=>Constant_bool ⟨.bl b,H,I,rfl,h⟩
theorem qX {j pos}:PE X (.Constant .none j pos) (tC .non):=λ_ _ _ H _ I h=>Constant_none ⟨.non,H,I,rfl,h⟩
theorem cY {x j pos}:PE X (.Constant (.str x) j pos) (tC (.str x)):=λ_ _ _ H _ I h=>Calls.Constant_str ⟨.str x,H,I.tok _,⟨_,rfl⟩,h⟩
noncomputable def Gl (X:Cx)(x:Str):Prop:=X.env.kindOf x=some .globalImplicit
theorem fj {E:Value->Shared->Prop}{pins:List (Addr × Obj)}{s:Shared}{σ:St}{H:Hp}{x:Str}{u:Value}{pos:Pos}{Q:Value->Shared->Prop}(I:Inv X pins σ H s)(hg:Gl X x)(hm:X.mg x=some u)(h:Q u s)
 (hd:(x == ("__debug__":Str))=false:=by decide):wpAny (model X.prog X.w) X.A (eval (.Name x pos) X.env) Q E s :=
 Calls.Name_function_global I.ok.kind hg (Calls.loadGlobal_global (by rw [I.ok.glob]; exact I.mod.glob.keeps I.bk) hm h) hd
theorem fh {E:Value->Shared->Prop}{pins:List (Addr × Obj)}{s:Shared}{σ:St}{H:Hp}{x:Str}{u:Value}{pos:Pos}{Q:Value->Shared->Prop}(I:Inv X pins σ H s)(hg:Gl X x)(hm:X.mg x=none)(hv:bootBuiltins x=some u)(h:Q u s)
 (hn:x ≠ "__name__":=by decide)(hd:(x == ("__debug__":Str))=false:=by decide):wpAny (model X.prog X.w) X.A (eval (.Name x pos) X.env) Q E s:=by
 obtain ⟨mb,h1,h2⟩:=I.mod.blt;exact Calls.Name_function_global I.ok.kind hg (Calls.loadGlobal_builtin (by rw [I.ok.glob]; exact I.mod.glob.keeps I.bk) hm (by rw [I.ok.blt]; exact h1.keeps I.bk) ((h2 x hn).trans hv) h) hd
theorem cL {x:Str}{v:V}{u:Value}{pos:Pos}(hg:Gl X x)(hm:X.mg x=some u)(r:aC v u)(hd:(x == ("__debug__":Str))=false:=by decide):PE X (.Name x pos) (tC v):=
 λ_ _ _ H _ I h=>fj I hg hm ⟨v,H,I,r,h⟩ hd
theorem dh {x:Str}{v:V}{u:Value}{pos:Pos}(hg:Gl X x)(hm:X.mg x=none)(hv:bootBuiltins x=some u)(r:aC v u)(hn:x ≠ "__name__":=by decide)(hd:(x == ("__debug__":Str))=false:=by decide):PE X (.Name x pos) (tC v):=
 λ_ _ _ H _ I h=>fh I hg hm hv ⟨v,H,I,r,h⟩ hn hd
variable {a b:Expr}{ta tb:TE}{pos:Pos}
noncomputable def PC (X:Cx)(op:CmpOp)(a b:Expr)(t:TE):Prop :=
 ∀ (pins:List (Addr × Obj))(s:Shared)(σ:St)(H:Hp)(Q:VK),Inv X pins σ H s->t σ H Q →
   wpAny (model X.prog X.w) X.A (eval a X.env) (λv s₁=>wpAny (model X.prog X.w) X.A (eval b X.env) (λu s₂=>wpAny (model X.prog X.w) X.A (compareOp op v u) (EP X pins σ Q) X.xe s₂) X.xe s₁) X.xe s
theorem wF (b:Expr){op:CmpOp}(h:op ≠ .In)(h2:op ≠ .NotIn):behindInMarks op b=false:=by
 have e1:(op == CmpOp.In)=false:=by cases op <;> first | rfl | exact absurd rfl h
 have e2:(op == CmpOp.NotIn)=false:=by cases op <;> first | rfl | exact absurd rfl h2
 cases b <;> simp [behindInMarks,e1,e2]
noncomputable def EC (ta:TE):TE:=λσ H Q=>ta σ H λx H1=>Q (.bl (decide (x = .non))) H1
theorem aC.none_iff {x:V}{v:Value}(r:aC x v):(v == Value.none)=decide (x = .non):=by
 cases x with
 | non=>cases r; rfl
 | bl _=>cases r; rfl
 | int _=>obtain ⟨t,rfl⟩:=r; rfl
 | str _=>obtain ⟨t,rfl⟩:=r; rfl
 | byt _=>obtain ⟨t,rfl⟩:=r; rfl
 | flt _=>obtain ⟨t,rfl⟩:=r; rfl
 | ref _=>cases r; rfl
 | ty _=>cases r; rfl
theorem A1 {j pos'}(ha:PE X a ta):PC X .Is a (.Constant .none j pos') (EC ta):=by
 intro pins s σ H Q I h;refine bR (ha pins s σ H _ I h) λv s1 ⟨x,H1,I1,r1,q1⟩=>?_;exact Constant_none (is_none_gen ⟨.bl _,H1,I1,by rw [r1.none_iff]; rfl,q1⟩)
noncomputable def tB (t:TE):TT:=λσ H Q=>t σ H λx H1=>∃ c,x = .bl c/\Q c H1
theorem xb {op:CmpOp}{t:TE}(h:PC X op a b t)(h1:behindInMarks op b=false:=by first | exact wF _ (by decide) (by decide) | rfl):PT X (.Compare a [op] [b] pos) (tB t):=by
 intro pins s σ H Q I hw;refine wpAny_isTrue_Compare1 (bR (h pins s σ H _ I hw) λv s1 h1=>bR h1 λu s2 h2=>bR h2 λc s3 ⟨x,H1,I1,r1,q1⟩=>?_) h1;obtain ⟨d,rfl,q⟩:=q1
 cases r1
 exact wpAny_truthy_bool ⟨H1,I1,q⟩
theorem b9 {e:Expr}{t:TE}(h:PE X e t)(he:∀ dt,isTrue e X.env dt=(do let v <-dt; standAt e.pos; holding [v] (truthy v)):=by intro _; rfl):PT X e (tB t):=by
 intro pins s σ H Q I hw;refine isTrue_plain (bR (h pins s σ H _ I hw) λv s1 ⟨x,H1,I1,r1,q1⟩=>?_) (he _);obtain ⟨d,rfl,q⟩:=q1
 cases r1
 exact wpAny_truthy_bool ⟨H1,I1,q⟩
variable {tA Rk:TT}{rest:List Expr}
noncomputable def D5 (t u:TT):TT:=λσ H Q=>t σ H λc H1=>if c=true then u σ H1 Q else Q false H1
noncomputable def E7 (t u:TT):TT:=λσ H Q=>t σ H λc H1=>if c=true then Q true H1 else u σ H1 Q
noncomputable def DY (t:TT):TT:=λσ H Q=>t σ H λc H1=>Q (!c) H1
theorem zE (ha:PT X a tA):PW X (.BoolOp .And [a] pos) tA:=by
 intro wh pins s σ H Q I h;refine isTrue_and (bR (ha pins s σ H Q I h) λc s1 e=>?_)
 cases c with
 | true=>exact isTrue_and_nil e
 | false=>exact e
theorem fL (ha:PT X a tA):PW X (.BoolOp .Or [a] pos) tA:=by
 intro wh pins s σ H Q I h;refine isTrue_or (bR (ha pins s σ H Q I h) λc s1 e=>?_)
 cases c with
 | false=>exact isTrue_or_nil e
 | true=>exact e
theorem Bm (ha:PT X a tA)(hb:PW X (.BoolOp .And (b :: rest) pos) Rk):PW X (.BoolOp .And (a :: b :: rest) pos) (D5 tA Rk):=by
 intro wh pins s σ H Q I h;refine isTrue_and (bR (ha pins s σ H _ I h) λc s1 ⟨H1,I1,q1⟩=>?_)
 cases c with
 | true=>exact hb wh pins s1 σ H1 Q I1 q1
 | false=>exact ⟨H1,I1,q1⟩
theorem gh (ha:PT X a tA)(hb:PW X (.BoolOp .Or (b :: rest) pos) Rk):PW X (.BoolOp .Or (a :: b :: rest) pos) (E7 tA Rk):=by
 intro wh pins s σ H Q I h;refine isTrue_or (bR (ha pins s σ H _ I h) λc s1 ⟨H1,I1,q1⟩=>?_)
 cases c with
 | true=>exact ⟨H1,I1,q1⟩
 | false=>exact hb wh pins s1 σ H1 Q I1 q1
theorem bU (ha:PT X a tA):PT X (.UnaryOp .Not a pos) (DY tA):=by
 intro pins s σ H Q I h;exact isTrue_not (ha pins s σ H (λc H1=>Q (!c) H1) I h)
noncomputable def CA (ta tb:TE):TE:=λσ H Q=>ta σ H λx H1=>∃ c,x = .bl c/\if c=true then tb σ H1 Q else Q (.bl false) H1
noncomputable def Dp (ta:TE):TE:=λσ H Q=>ta σ H λx H1=>∃ c,x = .bl c/\Q (.bl (!c)) H1
theorem dC {op}{t:TE}(h:PE X a t):PE X (.BoolOp op [a] pos) t:=λpins s σ H Q I hw=>BoolOp_one (h pins s σ H Q I hw)
theorem cE (ha:PE X a ta)(hb:PE X (.BoolOp .And (b :: rest) pos) tb):PE X (.BoolOp .And (a :: b :: rest) pos) (CA ta tb):=by
 intro pins s σ H Q I h;refine BoolOp_and (bR (ha pins s σ H _ I h) λv s1 ⟨x,H1,I1,r1,q1⟩=>?_);obtain ⟨c,rfl,q1⟩:=q1
 cases r1
 refine wpAny_truthy_bool ?_
 cases c with
 | true=>exact hb pins s1 σ H1 Q I1 q1
 | false=>exact ⟨.bl false,H1,I1,rfl,q1⟩
theorem xC (ha:PE X a ta):PE X (.UnaryOp .Not a pos) (Dp ta):=by
 intro pins s σ H Q I h;refine UnaryOp_ (bR (ha pins s σ H _ I h) λv s1 ⟨x,H1,I1,r1,q1⟩=>?_);obtain ⟨c,rfl,q1⟩:=q1
 cases r1
 exact not_of (wpAny_truthy_bool ⟨.bl (!c),H1,I1,rfl,q1⟩)
end
noncomputable def bu (K:PySem.W.Frag)(H:Hp)(a:Addr)(xs:List V):Prop :=
 Rd H a (.lst xs) \/
  ∃ (o:Obj)(its:Array Value)(n:Nat),K.lookup a=some o/\o.cls = .type "list"/\o.dict=none/\o.data = .seq its n/\its.size<=sizeLine/\aK xs its.toList
noncomputable def a9 (K:PySem.W.Frag)(H:Hp)(a:Addr)(xs:List V):Prop :=
 Rd H a (.tup xs) \/
  ∃ (o:Obj)(its:Array Value)(n:Nat),K.lookup a=some o/\o.cls = .type "tuple"/\o.data = .seq its n/\its.size<=sizeLine/\aK xs its.toList
noncomputable def EF:Value->Option V
 | .none=>some .non
 | .bool b=>some (.bl b)
 | .int i _=>some (.int i)
 | .str x _=>some (.str x)
 | .bytes b _=>some (.byt b)
 | .float b _=>some (.flt b)
 | .ref a=>some (.ref a)
 | .type n=>some (.ty n)
 | _=>none
theorem aC.abs {x:V}{u:Value}(r:aC x u):EF u=some x:=by
 cases x with
 | non=>cases r; rfl
 | bl _=>cases r; rfl
 | int _=>obtain ⟨t,rfl⟩:=r; rfl
 | str _=>obtain ⟨t,rfl⟩:=r; rfl
 | byt _=>obtain ⟨t,rfl⟩:=r; rfl
 | flt _=>obtain ⟨t,rfl⟩:=r; rfl
 | ref _=>cases r; rfl
 | ty _=>cases r; rfl
theorem aC.inj {x y:V}{u:Value}(r:aC x u)(q:aC y u):x=y:=Option.some.inj (r.abs.symm.trans q.abs)
theorem aK.inj:∀ {xs ys:List V}{us:List Value},aK xs us->aK ys us->xs=ys
 | _,_,_,.nil,.nil=>rfl
 | _,_,_,.cons r t,.cons r' t'=>by rw [r.inj r',aK.inj t t']
section
variable {X:Cx}{pins:List (Addr × Obj)}{σ:St}{H:Hp}{s:Shared}{a:Addr}{xs ys:List V}
theorem bu.of {K:PySem.W.Frag}(h:H a=some (.lst xs)):bu K H a xs:=.inl (.inl h)
theorem a9.of {K:PySem.W.Frag}(h:H a=some (.tup xs)):a9 K H a xs:=.inl (.inl h)
theorem Inv.list (I:Inv X pins σ H s)(h:bu X.K H a xs):∃ its:List Value,aK xs its/\PlainL s.heap a its.toArray/\xs.length<=sizeLine:=by
 rcases h with h | ⟨o,its,n,hk,hc,hd,hs,hz,r⟩
 ·obtain ⟨z,its,n,r,e⟩:=h.ok I.hok;exact ⟨its,r,⟨_,n,e,rfl,rfl,rfl⟩,z⟩
 ·refine ⟨its.toList,r,⟨o,n,I.kIn a o hk,hc,hd,by simpa using hs⟩,?_⟩;have e:=r.length;simp only [Array.length_toList] at e;omega
theorem Inv.tuple (I:Inv X pins σ H s)(h:a9 X.K H a xs):∃ its:List Value,aK xs its/\IsTup s.heap a its.toArray/\xs.length<=sizeLine:=by
 rcases h with h | ⟨o,its,n,hk,hc,hs,hz,r⟩
 ·obtain ⟨z,its,r,p⟩:=h.ok I.hok;exact ⟨its,r,p,z⟩
 ·refine ⟨its.toList,r,⟨o,I.kIn a o hk,hc,n,by simpa using hs⟩,?_⟩;have e:=r.length;simp only [Array.length_toList] at e;omega
theorem Inv.list_inj (I:Inv X pins σ H s)(h:bu X.K H a xs)(h':bu X.K H a ys):xs=ys:=by
 obtain ⟨its,r,⟨o,n,e,_,_,d⟩,_⟩:=I.list h;obtain ⟨its',r',⟨o',n',e',_,_,d'⟩,_⟩:=I.list h';rw [e] at e'; cases e';rw [d] at d'
 injection d' with d1 _
 have:its=its':=by simpa using congrArg Array.toList d1
 subst this;exact r.inj r'
theorem Inv.tuple_inj (I:Inv X pins σ H s)(h:a9 X.K H a xs)(h':a9 X.K H a ys):xs=ys:=by
 obtain ⟨its,r,⟨o,e,_,n,d⟩,_⟩:=I.tuple h;obtain ⟨its',r',⟨o',e',_,n',d'⟩,_⟩:=I.tuple h';rw [e] at e'; cases e';rw [d] at d'
 injection d' with d1 _
 have:its=its':=by simpa using congrArg Array.toList d1
 subst this;exact r.inj r'
end
noncomputable abbrev Cx.wish (X:Cx)(E:Value->Shared->Prop):Cx:={ X with xe:=E }
noncomputable abbrev Cx.nox (X:Cx):Cx:=X.wish λ_ _=>False
theorem Cx.Ok.wish {X:Cx}(ok:X.Ok)(E:Value->Shared->Prop):(X.wish E).Ok :=
 ⟨ok.mod,ok.kind,ok.glob,ok.blt,ok.above,ok.inj,ok.has,ok.cab,ok.hd,ok.frames,ok.stk,ok.exf,ok.bs,ok.bsz,ok.noex,ok.exfs,ok.funs,ok.frf⟩
theorem Cx.Ok.unwish {X:Cx}{E:Value->Shared->Prop}(ok:(X.wish E).Ok):X.Ok :=
 ⟨ok.mod,ok.kind,ok.glob,ok.blt,ok.above,ok.inj,ok.has,ok.cab,ok.hd,ok.frames,ok.stk,ok.exf,ok.bs,ok.bsz,ok.noex,ok.exfs,ok.funs,ok.frf⟩
section
variable {X:Cx}{pins:List (Addr × Obj)}{σ:St}{H:Hp}{s:Shared}{E:Value->Shared->Prop}
theorem Inv.wish (I:Inv X pins σ H s)(E:Value->Shared->Prop):Inv (X.wish E) pins σ H s:=⟨I.ok.wish E,I.os,I.bare,I.base,I.loc,I.cell,I.free,I.freeC,I.pin,I.hok,I.len⟩
theorem Inv.unwish (I:Inv (X.wish E) pins σ H s):Inv X pins σ H s:=⟨I.ok.unwish,I.os,I.bare,I.base,I.loc,I.cell,I.free,I.freeC,I.pin,I.hok,I.len⟩
theorem SP.unwish {D:Ends}{f:Flow}{s':Shared}(h:SP (X.wish E) pins D f s'):SP X pins D f s':=by
 cases f with
 | next=>obtain ⟨σ',H',I,q⟩:=h; exact ⟨σ',H',I.unwish,q⟩
 | brk=>obtain ⟨σ',H',I,q⟩:=h; exact ⟨σ',H',I.unwish,q⟩
 | cont=>obtain ⟨σ',H',I,q⟩:=h; exact ⟨σ',H',I.unwish,q⟩
 | ret u=>obtain ⟨v,σ',H',I,r,q⟩:=h; exact ⟨v,σ',H',I.unwish,r,q⟩
theorem iX.nox {st:List Stmt}{t:TS}(h:iX X.nox st t):iX X st t:=λpins s σ H D I hw =>
 wpAny_mono (h pins s σ H D (I.wish _) hw) (λ_ _ q=>q.unwish) λ_ _ z=>False.elim z
end
section
variable {X:Cx}{st:Stmt}{rest:List Stmt}{t u:TS}{e:Expr}{te:TE}{pos:Pos}
noncomputable def tNext:TS:=λD σ H=>D.nx σ H
noncomputable def zG (t u:TS):TS:=λD σ H=>t { D with nx:=u D } σ H
theorem aD:iX X [] tNext:=λ_ _ σ H _ I h=>wpAny_execs_nil ⟨σ,H,I,h⟩
theorem ak (h1:PS X st t)(h2:iX X rest u):iX X (st :: rest) (zG t u):=by
 intro pins s σ H D I h;refine wpAny_execs_cons (bR (h1 pins s σ H { D with nx:=u D } I h) λf s1 q=>?_)
 cases f with
 | next =>
   obtain ⟨σ',H',I',q⟩:=q;exact h2 pins s1 σ' H' D I' q
 | ret v=>exact q
 | brk=>exact q
 | cont=>exact q
theorem ar (h1:PS X st t):iX X [st] t:=by
 intro pins s σ H D I h;refine wpAny_execs_cons (bR (h1 pins s σ H D I h) λf s1 q=>?_)
 cases f with
 | next=>exact wpAny_execs_nil q
 | ret v=>exact q
 | brk=>exact q
 | cont=>exact q
theorem Inv.quiet {pins:List (Addr × Obj)}{σ:St}{H:Hp}{s:Shared}(I:Inv X pins σ H s):interactive X.env=false:=by simp [interactive,I.ok.kind]
noncomputable def C7 (te:TE):TS:=λD σ H=>te σ H λ_ H1=>D.nx σ H1
theorem m8 (he:PE X e te)(hs:swapsWith e none pos.line X.env=pure false:=by rfl):PS X (.Expr e pos) (C7 te):=by
 intro pins s σ H D I h;exact wpAny_Expr_any (bR (he pins s σ H _ I h) λv s1 ⟨x,H1,I1,r1,q1⟩=>⟨σ,H1,I1,q1⟩) I.quiet hs
noncomputable def Eb (te:TE):TS:=λD σ H=>te σ H D.rt
theorem az (he:PE X e te):PS X (.Return (some e) pos) (Eb te):=by
 intro pins s σ H D I h;exact wpAny_Return_some (bR (he pins s σ H _ I h) λv s1 ⟨x,H1,I1,r1,q1⟩=>⟨x,σ,H1,I1,r1,q1⟩)
noncomputable def zD (c:TT)(t u:TS):TS:=λD σ H=>c σ H λb H1=>if b=true then t D σ H1 else u D σ H1
theorem bg {c:Expr}{a b:List Stmt}{tc:TT}(hc:PT X c tc)(ha:iX X a t)(hb:iX X b u):PS X (.If c a b pos) (zD tc t u):=by
 intro pins s σ H D I h;refine wpAny_If (bR (hc pins s σ H _ I h) λd s1 ⟨H1,I1,q1⟩=>?_)
 cases d with
 | true=>exact ha pins s1 σ H1 D I1 q1
 | false=>exact hb pins s1 σ H1 D I1 q1
noncomputable def tNever:TS:=λ_ _ _=>False
theorem pK:PS X st tNever:=λ_ _ _ _ _ _ h=>h.elim
theorem uL {YA:List Stmt}:iX X YA tNever:=λ_ _ _ _ _ _ h=>h.elim
end
noncomputable abbrev TG:=V->St->Hp->(St->Hp->Prop)->Prop
noncomputable abbrev TGs:=List V->St->Hp->(St->Hp->Prop)->Prop
noncomputable def PG (X:Cx)(target:Expr)(t:TG):Prop :=
 ∀ (pins:List (Addr × Obj))(s:Shared)(σ:St)(H:Hp)(v:V)(u:Value)(Q:St->Hp->Prop),Inv X pins σ H s->aC v u->t v σ H Q →
   wpAny (model X.prog X.w) X.A (assign target X.env u) (λ_ s'=>∃ σ' H',Inv X pins σ' H' s'/\Q σ' H') X.xe s
noncomputable def DD (X:Cx)(ts:List Expr)(t:TGs):Prop :=
 ∀ (pins:List (Addr × Obj))(s:Shared)(σ:St)(H:Hp)(vs:List V)(us:List Value)(Q:St->Hp->Prop),Inv X pins σ H s->aK vs us->t vs σ H Q →
   wpAny (model X.prog X.w) X.A (assignInOrder ((assignEach ts X.env).map (·.2)) us) (λ_ s'=>∃ σ' H',Inv X pins σ' H' s'/\Q σ' H') X.xe s
noncomputable abbrev A9:=V->V->V->Hp->(Hp->Prop)->Prop
noncomputable def Dw (X:Cx)(t:A9):Prop :=
 ∀ (pins:List (Addr × Obj))(s:Shared)(σ:St)(H:Hp)(o i v:V)(ov iv u:Value)(Q:Hp->Prop),Inv X pins σ H s->aC o ov->aC i iv->aC v u->t o i v H Q →
   wpAny (model X.prog X.w) X.A (setItem ov iv u) (λ_ s'=>∃ H',Inv X pins σ H' s'/\Q H') X.xe s
section
variable {X:Cx}{pos:Pos}
noncomputable def bO (i:Nat):TG:=λv σ H Q=>Q (σ.set i (some v)) H
theorem aG {i:Nat}{x:Str}(hN:X.N.Nodup)(hi:X.N[i]?=some x)(hx:Df X.env.scope x)(hf:X.fn x=true\/X.env.scope.names.lookup x=some .local:=by first | exact .inl rfl | exact .inr rfl | assumption):PG X (.Name x pos) (bO i):=by
 intro pins s σ H v u Q I r h;exact wpAny_assign_Name (fM I hN hi hx r (λs' I'=>⟨_,H,I',h⟩) hf)
noncomputable def gNil:TGs:=λvs σ H Q=>vs=[]/\Q σ H
noncomputable def cq (t:TG)(u:TGs):TGs:=λvs σ H Q=>∃ v r,vs=v :: r/\t v σ H λσ' H'=>u r σ' H' Q
theorem cj:DD X [] gNil:=by
 intro pins s σ H vs us Q I r h;obtain ⟨e,h⟩:=h;subst e
 cases r
 exact assignInOrder_nil ⟨σ,H,I,h⟩
theorem aE {e:Expr}{es:List Expr}{t:TG}{u:TGs}(h1:PG X e t)(h2:DD X es u)
 (hs:(assignEach (e :: es) X.env).map (·.2)=assign e X.env :: (assignEach es X.env).map (·.2):=by rfl):DD X (e :: es) (cq t u):=by
 intro pins s σ H vs us Q I r h;obtain ⟨v,vr,e1,h⟩:=h;subst e1
 cases r with
 | cons r rr =>
   rw [hs];refine assignInOrder_cons (bR (h1 pins s σ H _ _ _ I r h) λ_ s1 ⟨σ1,H1,I1,q1⟩=>?_);exact h2 pins s1 σ1 H1 _ _ Q I1 rr q1
noncomputable def i6 (K:PySem.W.Frag)(n:Nat)(t:TGs):TG:=λv σ H Q=>∃ a xs,v = .ref a/\a9 K H a xs/\xs.length=n/\t xs σ H Q
theorem cZ {es:List Expr}{k:Nat}{t:TGs}{n:Nat}(hc:X.calm=true)(h:DD X es t)
 (hn:(assignEach es X.env).length=n:=by rfl)(HJ:(assignEach es X.env).findIdx? (·.1)=none:=by rfl):PG X (.Tuple es k pos) (i6 X.K n t):=by
 intro pins s σ H v u Q I r hw;obtain ⟨a,xs,e1,hq,hl,hw⟩:=hw;subst e1
 cases r
 obtain ⟨its,rv,ht,hz⟩:=I.tuple hq;refine assign_Tuple_tuple (I.ok.hd hc) ht (by simp [hn,<-hl,rv.length]) HJ λh' hx=>?_;have I1:Inv X pins σ H { s with heap:=h' }:=I.kept (t':=s.toks) λb o e=>hx b o (Nat.ne_of_lt (Heap.lt_size e)) e;exact h pins _ σ H xs _ Q I1 (by simpa using rv) hw
noncomputable def Ef (to ti:TE)(t:A9):TG:=λv σ H Q=>to σ H λo H1=>ti σ H1 λi H2=>t o i v H2 λH3=>Q σ H3
theorem qY {o i:Expr}{to ti:TE}{t:A9}(ho:PE X o to)(hi:PE X i ti)(hs:Dw X t)
 (ha:∀ v,assign (.Subscript o i pos) X.env v=(do
  let ov <-holding [v] (eval o X.env)
  let iv <-holding [v,ov] (eval i X.env)
  standAt pos
  holding [v,ov,iv] (setItem ov iv v)
  release [v,ov,iv] []):=by intro _; rfl):PG X (.Subscript o i pos) (Ef to ti t):=by
 intro pins s σ H v u Q I r h;rw [ha];refine wpAny_bind (wpAny_holding (bR (ho pins s σ H _ I h) λov s1 ⟨x,H1,I1,r1,q1⟩=>?_));refine wpAny_bind (wpAny_holding (bR (hi pins s1 σ H1 _ I1 q1) λiv s2 ⟨y,H2,I2,r2,q2⟩=>?_));refine wpAny_bind (wpAny_standAt (wpAny_bind (wpAny_holding (bR (hs pins s2 σ H2 x y v ov iv u _ I2 r1 r2 r q2) λ_ s3 ⟨H3,I3,q3⟩=>?_))));exact wpAny_release ⟨σ,H3,I3,q3⟩
noncomputable def uu (te:TE)(g:TG):TS:=λD σ H=>te σ H λx H1=>g x σ H1 D.nx
theorem iP {tg e:Expr}{te:TE}{g:TG}(he:PE X e te)(hg:PG X tg g)(hs:swapsWithSole [tg] e pos.line X.env=pure false:=by rfl)(hw:swappedStores [tg] e X.env=pure none:=by rfl)
 (h1:(assignEach [tg] X.env).map (·.2)=[assign tg X.env]:=by rfl):PS X (.Assign [tg] e pos) (uu te g):=by
 intro pins s σ H D I h;refine wpAny_Assign_stores (bR (he pins s σ H _ I h) λv s1 ⟨x,H1,I1,r1,q1⟩=>?_) hs hw;rw [h1];exact bR (hg pins s1 σ H1 x v _ I1 r1 q1) λ_ s2 q=>q
theorem aY {i:Nat}{x:Str}{e:Expr}{te:TE}{pos':Pos}(hN:X.N.Nodup)(hi:X.N[i]?=some x)(hx:Df X.env.scope x)(he:PE X e te)(hs:swapsWith e (some (.Name x pos')) pos.line X.env=pure false:=by rfl)(hf:X.fn x=true\/X.env.scope.names.lookup x=some .local:=by first | exact .inl rfl | exact .inr rfl | assumption):
 PS X (.Assign [.Name x pos'] e pos) (uu te (bO i)):=by
 intro pins s σ H D I h;refine wpAny_Assign_Name (bR (he pins s σ H _ I h) λv s1 ⟨y,H1,I1,r1,q1⟩=>?_) hs;exact fM I1 hN hi hx r1 (λs2 I2=>⟨_,H1,I2,q1⟩) hf
noncomputable def EB (i j:Nat)(ta:TA):TS:=λD σ H=>ta σ H λvs H1=>∃ v w,vs=[v,w]/\D.nx ((σ.set i (some v)).set j (some w)) H1
theorem rD {i j:Nat}{x y:Str}{a b:Expr}{ta:TA}{px py pt:Pos} {kt k2 Sf}(hc:X.calm=true)(hN:X.N.Nodup)(hi:X.N[i]?=some x)(hj:X.N[j]?=some y)(GN:i≠j)
 (hx:X.env.scope.names.lookup x=some .local)(hy:X.env.scope.names.lookup y=some .local)(ha:PA X [a,b] ta)
 (hw:swappedStores [.Tuple [.Name x px,.Name y py] kt pt] (.Tuple [a,b] k2 Sf) X.env=pure (some [x,y]))
 (hs:swapsWithSole [.Tuple [.Name x px,.Name y py] kt pt] (.Tuple [a,b] k2 Sf) pos.line X.env=pure false:=by rfl):
 PS X (.Assign [.Tuple [.Name x px,.Name y py] kt pt] (.Tuple [a,b] k2 Sf) pos) (EB i j ta):=by
 intro pins s σ H D I h;rw [exec_Assign_arm];refine wpAny_bind (wpAny_standAt ?_);rw [hs];refine wpAny_bind (wpAny_pure ?_);rw [if_neg (by decide)];refine wpAny_bind (Tuple_ (bR (ha _ pins s σ H _ I h) λus s1 ⟨vs,H1,I1,r1,q1⟩=>?_));obtain ⟨v,w,e1,q1⟩:=q1;subst e1
 obtain ⟨u1,u2,rfl,rv,Gm⟩:∃ u1 u2,us=[u1,u2]/\aC v u1/\aC w u2:=by
  cases r1 with
  | cons p q =>
    cases q with
    | cons p' q' =>
      cases q'
      exact ⟨_,_,rfl,p,p'⟩
 refine wpAny_newObj_type ?_ kZ;have I2:Inv X pins σ H1 { s1 with heap:=s1.heap.push { cls:=.type "tuple",data:=.seq [u1,u2].toArray } }:=I1.kept (t':=s1.toks) λb o e=>Heap.get?_push_of_some _ e;rw [hw];refine wpAny_bind (wpAny_pure ?_);show wpAny (model X.prog X.w) X.A (do rule "assign.swapped-stores"; let items <-unpackItems (.ref s1.heap.objs.size) 2 none; assignInOrder [λv=>bindName X.env y v,λv=>bindName X.env x v] items.reverse; pure Flow.next) _ _ _;refine wpAny_bind (wpAny_rule (wpAny_bind (unpackItems_tuple (items:=#[u1,u2]) (I.ok.hd hc) (IsTup.new s1.heap _) λh' Rl=>?_)));have I3:=I2.kept (h':=h') (t':=s1.toks) λb o e=>Rl b o (Nat.ne_of_lt (Heap.lt_size e)) e;show wpAny _ _ (assignInOrder [λv=>bindName X.env y v,λv=>bindName X.env x v] [u2,u1] >>= λ_=>pure Flow.next) _ _ _;refine wpAny_bind (assignInOrder_cons (wpAny_bindName (fM I3 hN hj (.inl hy) Gm (λs2 I4=>?_) (.inr hy))));refine assignInOrder_cons (wpAny_bindName (fM I4 hN hi (.inl hx) rv (λs3 I5=>assignInOrder_nil (wpAny_pure ?_)) (.inr hx)));rw [List.set_comm _ _ (Ne.symm GN)] at I5;exact ⟨_,H1,I5,q1⟩
noncomputable def Ci (c:TT)(tb:TS):TS:=λD σ H=>∃ W:Nat->St->Hp->Prop,(∃ m,W m σ H)/\∀ m σ H,W m σ H →
 c σ H λb H1=>if b=true then ∃ N:St->Hp->Prop,(∀ σ' H',N σ' H'->∃ m',m' < m/\W m' σ' H')/\tb { D with nx:=N,ct:=N,bk:=D.nx } σ H1 else D.nx σ H1
theorem oF {c:Expr}{body:List Stmt}{tc:TT}{tb:TS}(hp:PassesOwn (model X.prog X.w) X.A X.env X.xe)(hc:PT X c tc)(hb:iX X body tb):PS X (.While c body [] pos) (Ci tc tb):=by
 intro pins s σ H D I h;obtain ⟨W,⟨m0,w0⟩,turn⟩:=h;refine wpAny_While (codeAny_whileLoop (λn s'=>∃ σ' H',Inv X pins σ' H' s'/\W n σ' H') ?_ m0 ⟨σ,H,I,w0⟩);rintro n s1 ⟨σ1,H1,I1,w1⟩;refine wpAny_passesOwn hp (bR (hc pins s1 σ1 H1 _ I1 (turn n σ1 H1 w1)) λb s2 ⟨H2,I2,q2⟩=>?_)
 cases b with
 | true =>
   obtain ⟨N,hN,q2⟩:=q2;rw [if_pos rfl];refine wpAny_passesOwn hp (bR (hb pins s2 σ1 H2 _ I2 q2) λf s3 q3=>?_)
   cases f with
   | next =>
     obtain ⟨σ3,H3,I3,n3⟩:=q3;obtain ⟨m',hm,w3⟩:=hN σ3 H3 n3;exact ⟨m',hm,σ3,H3,I3,w3⟩
   | cont =>
     obtain ⟨σ3,H3,I3,n3⟩:=q3;obtain ⟨m',hm,w3⟩:=hN σ3 H3 n3;exact ⟨m',hm,σ3,H3,I3,w3⟩
   | brk=>exact q3
   | ret v=>exact q3
 | false =>
   rw [if_neg Bool.false_ne_true];exact wpAny_execs_nil ⟨σ1,H2,I2,q2⟩
end
structure It where
 go:Nat->Hp->Prop
 yld:Nat->Hp->V->Hp->Prop
 stop:Nat->Hp->Prop
noncomputable def cC (X:Cx)(pins:List (Addr × Obj))(H:Hp)(b:Addr):Prop :=
 H b=none/\b≠X.env.locals/\b ∉ X.fs/\(b∈X.ex\/X.s₀.heap.objs.size<=b)/\(∀ x c,X.env.cells.lookup x=some c->c≠b)/\∀ p∈X.pn++pins,p.1≠b
theorem Inv.fpOk {X:Cx}{pins:List (Addr × Obj)}{σ:St}{H H':Hp}{s:Shared}{b:Addr}(I:Inv X pins σ H s)(hb:s.heap.objs.size<=b)(hn:H' b=none):cC X pins H' b:=by
 refine ⟨hn,Nat.ne_of_gt (Nat.lt_of_lt_of_le I.lt hb),I.nofs hb,.inr (Nat.le_trans I.sz hb),λx c e z=>?_,λp hp z=>?_⟩
 ·obtain ⟨v,q⟩:=I.cell x c e;exact absurd (Nat.lt_of_lt_of_le q.lt (by rw [z]; exact hb)) (Nat.lt_irrefl _)
 ·exact absurd (Nat.lt_of_lt_of_le (Heap.lt_size (I.pin p hp).1) (by rw [z]; exact hb)) (Nat.lt_irrefl _)
structure Turn (P:Program)(w:World)(K:PySem.W.Frag)(tg:Expr)(J:It)(fp:List Addr)(it:Addr)(tn:Nat->Heap->Prop):Prop where
 mem:it∈fp
 obj:∀ i h,tn i h->∀ b∈fp,∃ o,h.get? b=some o/\∀ v,o.data ≠ .cell v
 keep:∀ i h h',tn i h->(∀ b∈fp,∀ o,h.get? b=some o->h'.get? b=some o)->tn i h'
 item:∀ (X:Cx),X.prog=P->X.w=w->X.K=K->X.calm=true->∀ (i:Nat)(pins:List (Addr × Obj))(s:Shared)(σ:St)(H:Hp)(E:Value->Shared->Prop),Inv X pins σ H s->(∀ b∈fp,cC X pins H b)->tn i s.heap->J.go i H →
  wpAny (model P w) X.A (pyNext (.ref it)) (λr s1=>∃ u,r=some u /\
   wpAny (model P w) X.A (letOwnedTupleGo tg (.ref it) u) (λ_ s2=>∃ x H',Inv X pins σ H' s2/\aC x u/\J.yld i H x H'/\tn (i + 1) s2.heap/\∀ b∈fp,H' b=none) E s1) E s
 done:∀ (X:Cx),X.prog=P->X.w=w->X.K=K->X.calm=true->∀ (i:Nat)(pins:List (Addr × Obj))(s:Shared)(σ:St)(H:Hp)(E:Value->Shared->Prop),Inv X pins σ H s->(∀ b∈fp,cC X pins H b)->tn i s.heap->J.stop i H →
  wpAny (model P w) X.A (pyNext (.ref it)) (λr s1=>r=none/\Inv X pins σ H s1) E s
 self:∀ (A:Around)(i:Nat)(s:Shared)(Q:Value->Shared->Prop)(E:Value->Shared->Prop),tn i s.heap->Q (.ref it) s->wpAny (model P w) A (pyIter (.ref it)) Q E s
noncomputable abbrev TI:=St->Hp->(It->Hp->Prop)->Prop
noncomputable def EV (X:Cx)(pins:List (Addr × Obj))(σ:St)(tg:Expr)(R:It->Hp->Prop)(Mv:Value)(s2:Shared):Prop :=
 ∃ (it:Addr)(fp:List Addr)(tn:Nat->Heap->Prop)(J:It)(H':Hp),Mv = .ref it/\Inv X pins σ H' s2/\Turn X.prog X.w X.K tg J fp it tn/\tn 0 s2.heap/\(∀ b∈fp,cC X pins H' b)/\R J H'
noncomputable def PI (X:Cx)(tg iter:Expr)(wi:TI):Prop :=
 ∀ (pins:List (Addr × Obj))(s:Shared)(σ:St)(H:Hp)(R:It->Hp->Prop),Inv X pins σ H s->wi σ H R →
   wpAny (model X.prog X.w) X.A (eval iter X.env) (λv s1=>wpAny (model X.prog X.w) X.A (pyIter v) (EV X pins σ tg R) X.xe s1) X.xe s
theorem sx {M:Model}{A:Around}{E:Value->Shared->Prop}{s:Shared}{tg:Expr}{it:Addr}{u:Value}{o:Obj}{n:String}{vs:Array Value}{Q:Unit->Shared->Prop}(ho:s.heap.get? it=some o)(hc:o.cls = .type n)(hd:o.data = .fields vs)
 (hn:["enumerate","zip","dict_itemiterator","dict_reverseitemiterator","odict_iterator","itertools.zip_longest","itertools.pairwise"].contains n=false)(hQ:Q () s):wpAny M A (letOwnedTupleGo tg (.ref it) u) Q E s:=by
 unfold letOwnedTupleGo
 cases tg <;> first
  | exact wpAny_pure hQ
  | (cases u <;> first
   | exact wpAny_pure hQ
   | (refine wpAny_bind (wpAny_load ho ?_)
      rw [hc,hd];show wpAny M A (if (["enumerate","zip","dict_itemiterator","dict_reverseitemiterator","odict_iterator","itertools.zip_longest","itertools.pairwise"].contains n&&vs[0]? == some (rawInt _))=true then _ else _) Q E s;rw [if_neg (by intro h; rw [hn,Bool.false_and] at h; cases h)]
      exact wpAny_pure hQ))
noncomputable def As (K:PySem.W.Frag)(a:Addr):It :=
 ⟨λi H=>∃ xs x,bu K H a xs/\xs[i]?=some x,λi H x H'=>H'=H/\∀ xs,bu K H a xs->xs[i]?=some x,λi H=>∃ xs,bu K H a xs/\xs.length<=i⟩
noncomputable def EM (K:PySem.W.Frag)(a:Addr):It :=
 ⟨λi H=>∃ xs x,a9 K H a xs/\xs[i]?=some x,λi H x H'=>H'=H/\∀ xs,a9 K H a xs->xs[i]?=some x,λi H=>∃ xs,a9 K H a xs/\xs.length<=i⟩
noncomputable def Bl (lo:Int)(n:Nat):It:=⟨λi _=>i < n,λi H x H'=>H'=H/\x = .int (lo + i),λi _=>n<=i⟩
theorem vy {P:Program}{w:World}{K:PySem.W.Frag}{tg:Expr}(a it:Addr):Turn P w K tg (As K a) [it] it (λi h=>h.IsListIter it a i) where
 mem:=by simp
 obj:=λi h st b hb=>by
  have e:b=it:=by simpa using hb
  subst e;obtain ⟨o,e,c,d⟩:=st;exact ⟨o,e,λv z=>by rw [d] at z; cases z⟩
 keep:=λi h h' st k=>st.at λo e=>k it (by simp) o e
 item:=by
  intro X hP hw hK hc i pins s σ H E I hf st hg;subst hP hw hK;obtain ⟨xs,x,hq,hx⟩:=hg;obtain ⟨its,rv,p,hz⟩:=I.list hq;obtain ⟨u,hu,ru⟩:=rv.get hx;obtain ⟨f0,f1,f2,f3,f4,f5⟩:=hf it (by simp);refine wpAny_pyNext_list_item st p.isList (x:=u) (by simpa using hu) λh' FV sb=>?_;have I1:Inv X pins σ H { s with heap:=h' }:=I.turned (t':=s.toks) (λb o hb e=>(sb.2 b hb).trans e) f0 f1 f3 f4 f5;obtain ⟨o,e,c,d⟩:=id FV;exact ⟨u,rfl,sx (s:={ s with heap:=h' }) e c d (by decide) ⟨x,H,I1,ru,⟨rfl,λys hy=>by rw [I.list_inj hy hq]; exact hx⟩,FV,λb hb=>(hf b hb).1⟩⟩
 done:=by
  intro X hP hw hK hc i pins s σ H E I hf st hg;subst hP hw hK;obtain ⟨xs,hq,hx⟩:=hg;obtain ⟨its,rv,p,hz⟩:=I.list hq;obtain ⟨f0,f1,f2,f3,f4,f5⟩:=hf it (by simp);have hl:=rv.length;exact wpAny_pyNext_list_end (I.ok.hd hc) st p.isList (by simp; omega) λh' eb=>⟨rfl,I.turned (t':=s.toks) (λb o hb e=>eb b o hb e) f0 f1 f3 f4 f5⟩
 self:=λ_ _ _ _ _ st h=>wpAny_pyIter_listiter st h
theorem p9 {P:Program}{w:World}{K:PySem.W.Frag}{tg:Expr}(a it:Addr):Turn P w K tg (EM K a) [it] it (λi h=>h.IsTupleIter it a i) where
 mem:=by simp
 obj:=λi h st b hb=>by
  have e:b=it:=by simpa using hb
  subst e;obtain ⟨o,e,c,d⟩:=st;exact ⟨o,e,λv z=>by rw [d] at z; cases z⟩
 keep:=λi h h' st k=>st.at λo e=>k it (by simp) o e
 item:=by
  intro X hP hw hK hc i pins s σ H E I hf st hg;subst hP hw hK;obtain ⟨xs,x,hq,hx⟩:=hg;obtain ⟨its,rv,p,hz⟩:=I.tuple hq;obtain ⟨u,hu,ru⟩:=rv.get hx;obtain ⟨f0,f1,f2,f3,f4,f5⟩:=hf it (by simp);refine wpAny_pyNext_tuple_item st (show s.heap.IsTuple a its.toArray from p) (x:=u) (by simpa using hu) λh' FV sb=>?_;have I1:Inv X pins σ H { s with heap:=h' }:=I.turned (t':=s.toks) (λb o hb e=>(sb.2 b hb).trans e) f0 f1 f3 f4 f5;obtain ⟨o,e,c,d⟩:=id FV;exact ⟨u,rfl,sx (s:={ s with heap:=h' }) e c d (by decide) ⟨x,H,I1,ru,⟨rfl,λys hy=>by rw [I.tuple_inj hy hq]; exact hx⟩,FV,λb hb=>(hf b hb).1⟩⟩
 done:=by
  intro X hP hw hK hc i pins s σ H E I hf st hg;subst hP hw hK;obtain ⟨xs,hq,hx⟩:=hg;obtain ⟨its,rv,p,hz⟩:=I.tuple hq;obtain ⟨f0,f1,f2,f3,f4,f5⟩:=hf it (by simp);have hl:=rv.length;exact wpAny_pyNext_tuple_end (I.ok.hd hc) st (show s.heap.IsTuple a its.toArray from p) (by simp; omega) λh' eb=>⟨rfl,I.turned (t':=s.toks) (λb o hb e=>eb b o hb e) f0 f1 f3 f4 f5⟩
 self:=λ_ _ _ _ _ st h=>wpAny_pyIter_tupleiter st h
theorem qH {P:Program}{w:World}{K:PySem.W.Frag}{tg:Expr}(it:Addr)(lo:Int)(n:Nat):Turn P w K tg (Bl lo n) [it] it (λi h=>IsRangeIter h it (lo + (i:Nat) * 1) ((n:Int) - (i:Nat)) 1) where
 mem:=by simp
 obj:=λi h st b hb=>by
  have e:b=it:=by simpa using hb
  subst e
  exact ⟨_,st,λv z=>by
   have z':Data.fields _=Data.cell v:=z
   cases z'⟩
 keep:=λi h h' st k=>k it (by simp) _ st
 item:=by
  intro X hP hw hK hc i pins s σ H E I hf st hg;subst hP hw hK;obtain ⟨f0,f1,f2,f3,f4,f5⟩:=hf it (by simp);have W:=Walks.range (prog:=X.prog) (w:=X.w) (I.ok.hd hc) it lo 1 n;refine W.item i s _ _ hg st λv h' tk hv FV kk=>?_;obtain ⟨t,rfl⟩:=hv;have I1:Inv X pins σ H { s with heap:=h',toks:=tk }:=I.turned (λb o hb e=>kk b o (by simpa using hb) e) f0 f1 f3 f4 f5;refine ⟨_,rfl,sx (s:={ s with heap:=h',toks:=tk }) (n:="range_iterator") FV rfl rfl (by decide) ⟨.int (lo + i),H,I1,⟨t,?_⟩,⟨rfl,rfl⟩,FV,λb hb=>(hf b hb).1⟩⟩;rw [Int.mul_one]
 done:=by
  intro X hP hw hK hc i pins s σ H E I hf st hg;subst hP hw hK;obtain ⟨f0,f1,f2,f3,f4,f5⟩:=hf it (by simp);exact wpAny_pyNext_range_end (I.ok.hd hc) st (by have:n<=i:=hg; omega) λh' eb=>⟨rfl,I.turned (t':=s.toks) (λb o hb e=>eb b o hb e) f0 f1 f3 f4 f5⟩
 self:=λ_ _ _ _ _ st h=>wpAny_pyIter_rangeiter st h
section
variable {X:Cx}{tg:Expr}
noncomputable def AK (K:PySem.W.Frag)(tl:TE):TI:=λσ H R=>tl σ H λx H1=>∃ a,x = .ref a/\(∃ xs,bu K H1 a xs)/\R (As K a) H1
noncomputable def D4 (K:PySem.W.Frag)(tl:TE):TI:=λσ H R=>tl σ H λx H1=>∃ a,x = .ref a/\(∃ xs,a9 K H1 a xs)/\R (EM K a) H1
theorem dF {l:Expr}{tl:TE}(hl:PE X l tl):PI X tg l (AK X.K tl):=by
 intro pins s σ H R I h;refine bR (hl pins s σ H _ I h) λv s1 ⟨x,H1,I1,r1,q1⟩=>?_;obtain ⟨a,e,⟨xs,hq⟩,q⟩:=q1;subst e
 cases r1
 obtain ⟨its,rv,p,hz⟩:=I1.list hq;refine wpAny_pyIter_list p.isList ?_;refine ⟨s1.heap.objs.size,[s1.heap.objs.size],_,_,H1,rfl,I1.kept (t':=s1.toks) λb o e=>Heap.get?_push_of_some _ e,vy a _,⟨_,Heap.get?_push_size _ rfl,rfl,rfl⟩,λb hb=>?_,q⟩
 have e:b=s1.heap.objs.size:=by simpa using hb
 subst e;exact I1.fpOk (Nat.le_refl _) (I1.hok.fresh (Nat.le_refl _))
theorem Ck {l:Expr}{tl:TE}(hl:PE X l tl):PI X tg l (D4 X.K tl):=by
 intro pins s σ H R I h;refine bR (hl pins s σ H _ I h) λv s1 ⟨x,H1,I1,r1,q1⟩=>?_;obtain ⟨a,e,⟨xs,hq⟩,q⟩:=q1;subst e
 cases r1
 obtain ⟨its,rv,p,hz⟩:=I1.tuple hq;refine wpAny_pyIter_tuple (show s1.heap.IsTuple a its.toArray from p) ?_;refine ⟨s1.heap.objs.size,[s1.heap.objs.size],_,_,H1,rfl,I1.kept (t':=s1.toks) λb o e=>Heap.get?_push_of_some _ e,p9 a _,⟨_,Heap.get?_push_size _ rfl,rfl,rfl⟩,λb hb=>?_,q⟩
 have e:b=s1.heap.objs.size:=by simpa using hb
 subst e;exact I1.fpOk (Nat.le_refl _) (I1.hok.fresh (Nat.le_refl _))
theorem wC {pins:List (Addr × Obj)}{σ:St}{H:Hp}{s:Shared}{R:It->Hp->Prop}{E:Value->Shared->Prop}{lo hi:Int}{t u v:Tok}{tk:Nat}(I:Inv X pins σ H s)(h1:-(2 ^ 62)<=lo)(h2:lo < 2 ^ 62)(h3:-(2 ^ 62)<=hi)(h4:hi < 2 ^ 62)
 (q:R (Bl lo (hi - lo).toNat) H):wpAny (model X.prog X.w) X.A (pyIter (.ref s.heap.objs.size)) (EV X pins σ tg R) E { s with heap:=s.heap.push { cls:=.type "range",data:=.fields #[.int lo t,.int hi u,.int 1 v] },toks:=tk }:=by
 refine wpAny_pyIter_range (IsRange.new ..) (small_one h1 h2 h3 h4) ?_;have I1:Inv X pins σ H { s with heap:=s.heap.push { cls:=.type "range",data:=.fields #[.int lo t,.int hi u,.int 1 v] },toks:=tk }:=I.kept λb o e=>Heap.get?_push_of_some _ e
 refine ⟨(s.heap.push { cls:=.type "range",data:=.fields #[.int lo t,.int hi u,.int 1 v] }).objs.size,[(s.heap.push { cls:=.type "range",data:=.fields #[.int lo t,.int hi u,.int 1 v] }).objs.size],_,_,H,rfl,
  I1.kept (t':=tk) λb o e=>Heap.get?_push_of_some _ e,qH _ lo (hi - lo).toNat,?_,λb hb=>?_,q⟩
 ·have e1:lo + ((0:Nat):Int) * 1=lo:=by simp
  have e2:(((hi - lo).toNat:Nat):Int) - ((0:Nat):Int)=Builtin.Range.rangeSize lo hi 1:=by rw [rangeSize_one]; split <;> omega
  show IsRangeIter _ _ (lo + ((0:Nat):Int) * 1) ((((hi - lo).toNat:Nat):Int) - ((0:Nat):Int)) 1;rw [e1,e2];exact Heap.get?_push_size _ rfl
 ·have e:b=(s.heap.push { cls:=.type "range",data:=.fields #[.int lo t,.int hi u,.int 1 v] }).objs.size:=by simpa using hb
  subst e;exact I1.fpOk (Nat.le_refl _) (I1.hok.fresh (Nat.le_refl _))
noncomputable def Do (ta:TA):TI:=λσ H R=>ta σ H λvs H1=>∃ j:Int,vs=[.int j]/\-(2 ^ 62)<=j/\j < 2 ^ 62/\R (Bl 0 j.toNat) H1
theorem fQ {a:Expr}{ta:TA}{p pos:Pos}(hg:Gl X "range")(hm:X.mg "range"=none)(ha:PA X [a] ta)(hs:starEach [a] X.env=[(false,eval a X.env)]:=by rfl):PI X tg (.Call (.Name "range" p) [a] [] pos) (Do ta):=by
 intro pins s σ H R I h;refine Call_ (fh I hg hm boot_range (PyProof.Rows.callWith_type1 (bR (ha pos pins s σ H _ I h) λus s1 ⟨vs,H1,I1,r1,q1⟩=>?_) hs rfl));obtain ⟨j,e,q1,q2,q⟩:=q1;subst e
 cases r1 with
 | cons r rr =>
   cases rr
   obtain ⟨t,rfl⟩:=r;exact call_range_1 (wC I1 (by omega) (by omega) q1 q2 (by simpa using q))
noncomputable def Ez (wi:TI)(g:TG)(tb:TS):TS:=λD σ H=>wi σ H λJ H1=>∃ W:Nat->Nat->St->Hp->Prop,(∃ m,W 0 m σ H1)/\∀ i m σ H,W i m σ H →
 (J.stop i H/\D.nx σ H)\/(J.go i H/\∃ N:St->Hp->Prop,(∀ σ' H',N σ' H'->∃ m',m' < m/\W (i + 1) m' σ' H')/\∀ x H',J.yld i H x H'->g x σ H' λσ2 H2=>tb { D with nx:=N,ct:=N,bk:=D.nx } σ2 H2)
noncomputable def c7 (fp:List Addr)(h:Heap):List (Addr × Obj):=fp.filterMap λb=>(h.get? b).map λo=>(b,o)
theorem cu {fp:List Addr}{h:Heap}{b:Addr}{o:Obj}(hb:b∈fp)(e:h.get? b=some o):(b,o)∈c7 fp h:=List.mem_filterMap.mpr ⟨b,hb,by rw [e]; rfl⟩
theorem lN {fp:List Addr}{h:Heap}{p:Addr × Obj}(hp:p∈c7 fp h):p.1∈fp/\h.get? p.1=some p.2:=by
 obtain ⟨b,hb,e⟩:=List.mem_filterMap.mp hp
 cases q:h.get? b with
 | none=>rw [q] at e; cases e
 | some o =>
   rw [q] at e;have e':(b,o)=p:=Option.some.inj e;subst e';exact ⟨hb,q⟩
theorem Inv.pinned {pins:List (Addr × Obj)}{σ:St}{H:Hp}{s:Shared}{fp:List Addr}(I:Inv X pins σ H s)(hf:∀ b∈fp,cC X pins H b)(ho:∀ b∈fp,∃ o,s.heap.get? b=some o/\∀ v,o.data ≠ .cell v):Inv X (pins++c7 fp s.heap) σ H s :=
 I.pins_of λp hp=>(List.mem_append.mp hp).elim (λz=>I.pin p (List.mem_append_right _ z)) λz=>by
   obtain ⟨hb,e⟩:=lN z;obtain ⟨f0,f1,f2,_⟩:=hf p.1 hb;obtain ⟨o,e',d⟩:=ho p.1 hb;rw [e] at e'; cases e';exact ⟨e,f0,f1,f2,d⟩
theorem Inv.unpinned {pins pl:List (Addr × Obj)}{σ:St}{H:Hp}{s:Shared}(I:Inv X (pins++pl) σ H s):Inv X pins σ H s:=I.pins_of λp hp=>I.pin p (List.mem_append_right _ (List.mem_append_left _ hp))
theorem gB {iter:Expr}{body:List Stmt}{wi:TI}{g:TG}{tb:TS}{pos:Pos}(hp:PassesOwn (model X.prog X.w) X.A X.env X.xe)(hc:X.calm=true)(hi:PI X tg iter wi)(hg:PG X tg g)(hb:iX X body tb)
 (hs:∀ x,foldedSetIterable iter X.env x=pure x:=by intro _; rfl):PS X (.For tg iter body [] pos) (Ez wi g tb):=by
 intro pins s σ H D I h;refine wpAny_For (bR (hi pins s σ H _ I h) λv s1 h1=>bR h1 λMv s2 h2=>?_) hs;obtain ⟨it,fp,tn,J,H2,e,I2,T,GS,f2,W,⟨m0,w0⟩,turn⟩:=h2;subst e;have Lk:∀ {H':Hp},(∀ b∈fp,H' b=none)->∀ b∈fp,cC X pins H' b:=λhn b hb=>⟨hn b hb,(f2 b hb).2⟩;refine codeAny_forLoop_any (λn s'=>∃ i σ' H',Inv X pins σ' H' s'/\tn i s'.heap/\(∀ b∈fp,H' b=none)/\W i n σ' H') ?_ m0 ⟨0,σ,H2,I2,GS,λb hb=>(f2 b hb).1,w0⟩;rintro n s3 ⟨i,σ3,H3,I3,Wm,Wn,w3⟩
 rcases turn i n σ3 H3 w3 with ⟨stop,qn⟩ | ⟨go,N,hN,step⟩
 ·refine wpAny_passesOwn hp (bR (T.done X rfl rfl rfl hc i pins s3 σ3 H3 X.xe I3 (Lk Wn) Wm stop) λr s4 ⟨hr,I4⟩=>?_);subst hr;exact wpAny_execs_nil ⟨σ3,H3,I4,qn⟩
 ·refine wpAny_passesOwn hp (bR (T.item X rfl rfl rfl hc i pins s3 σ3 H3 X.xe I3 (Lk Wn) Wm go) λr s4 ⟨u,hr,h4⟩=>?_);subst hr;refine wpAny_passesOwn hp (bR h4 λ_ s5 ⟨x,H5,I5,r5,y5,M1,Sg⟩=>?_);have YB:=I5.pinned (Lk Sg) (T.obj _ _ M1);refine wpAny_passesOwn hp (bR (hg _ s5 σ3 H5 x u _ YB r5 (step x H5 y5)) λ_ s6 ⟨σ6,H6,I6,q6⟩=>?_);refine wpAny_passesOwn hp (bR (hb _ s6 σ6 H6 _ I6 q6) λf s7 q7=>?_)
  have again:∀ {σ7:St}{H7:Hp},Inv X (pins++c7 fp s5.heap) σ7 H7 s7->N σ7 H7->∃ m,m < n/\∃ i σ' H',Inv X pins σ' H' s7/\tn i s7.heap/\(∀ b∈fp,H' b=none)/\W i m σ' H':=λ{σ7 H7} I7 n7=>by
   obtain ⟨m',hm,w7⟩:=hN σ7 H7 n7;refine ⟨m',hm,i + 1,σ7,H7,I7.unpinned,T.keep _ _ _ M1 λb hb o e=>(I7.pin (b,o) (List.mem_append_right _ (List.mem_append_right _ (cu hb e)))).1,λb hb=>?_,w7⟩;obtain ⟨o,e,d⟩:=T.obj _ _ M1 b hb;exact (I7.pin (b,o) (List.mem_append_right _ (List.mem_append_right _ (cu hb e)))).2.1
  cases f with
  | next=>obtain ⟨σ7,H7,I7,n7⟩:=q7; exact again I7 n7
  | cont=>obtain ⟨σ7,H7,I7,n7⟩:=q7; exact again I7 n7
  | brk=>obtain ⟨σ7,H7,I7,q7⟩:=q7; exact ⟨σ7,H7,I7.unpinned,q7⟩
  | ret v=>obtain ⟨x7,σ7,H7,I7,r7,q7⟩:=q7; exact ⟨x7,σ7,H7,I7.unpinned,r7,q7⟩
end
theorem oA {K:PySem.W.Frag}{a:Addr}{xs:List V}{g:TG}{tb:TS}{D:Ends}{σ:St}{H:Hp}(Pv:Nat->St->Hp->Prop)(h0:Pv 0 σ H)(hl:∀ i σ H,i<=xs.length->Pv i σ H->bu K H a xs)
 (hs:∀ i x σ H,xs[i]?=some x->Pv i σ H->g x σ H λσ2 H2=>tb { D with nx:=Pv (i + 1),ct:=Pv (i + 1),bk:=D.nx } σ2 H2)(hd:∀ σ H,Pv xs.length σ H->D.nx σ H):
 ∃ W:Nat->Nat->St->Hp->Prop,(∃ m,W 0 m σ H)/\∀ i m σ H,W i m σ H →
   ((As K a).stop i H/\D.nx σ H)\/((As K a).go i H/\∃ N:St->Hp->Prop,(∀ σ' H',N σ' H'->∃ m',m' < m/\W (i + 1) m' σ' H')/\∀ x H',(As K a).yld i H x H'->g x σ H' λσ2 H2=>tb { D with nx:=N,ct:=N,bk:=D.nx } σ2 H2):=by
 refine ⟨λi m σ H=>m=xs.length - i/\i<=xs.length/\Pv i σ H,⟨xs.length,by simp,Nat.zero_le _,h0⟩,?_⟩;rintro i m σ H ⟨rfl,hi,p⟩;have q:=hl i σ H hi p
 by_cases Fd:i < xs.length
 ·refine .inr ⟨⟨xs,xs[i],q,by simp [Fd]⟩,Pv (i + 1),λσ' H' p'=>⟨xs.length - (i + 1),by omega,rfl,Fd,p'⟩,λx H' y=>?_⟩;obtain ⟨e,y⟩:=y;subst e;exact hs i x σ _ (y xs q) p
 ·have e:i=xs.length:=by omega
  subst e;exact .inl ⟨⟨xs,q,Nat.le_refl _⟩,hd σ H p⟩
theorem ue {lo:Int}{n:Nat}{g:TG}{tb:TS}{D:Ends}{σ:St}{H:Hp}(Pv:Nat->St->Hp->Prop)(h0:Pv 0 σ H)
 (hs:∀ i σ H,i < n->Pv i σ H->g (.int (lo + i)) σ H λσ2 H2=>tb { D with nx:=Pv (i + 1),ct:=Pv (i + 1),bk:=D.nx } σ2 H2)(hd:∀ σ H,Pv n σ H->D.nx σ H):
 ∃ W:Nat->Nat->St->Hp->Prop,(∃ m,W 0 m σ H)/\∀ i m σ H,W i m σ H →
   ((Bl lo n).stop i H/\D.nx σ H)\/((Bl lo n).go i H/\∃ N:St->Hp->Prop,(∀ σ' H',N σ' H'->∃ m',m' < m/\W (i + 1) m' σ' H')/\∀ x H',(Bl lo n).yld i H x H'->g x σ H' λσ2 H2=>tb { D with nx:=N,ct:=N,bk:=D.nx } σ2 H2):=by
 refine ⟨λi m σ H=>m=n - i/\i<=n/\Pv i σ H,⟨n,by simp,Nat.zero_le _,h0⟩,?_⟩;rintro i m σ H ⟨rfl,hi,p⟩
 by_cases Fd:i < n
 ·refine .inr ⟨Fd,Pv (i + 1),λσ' H' p'=>⟨n - (i + 1),by omega,rfl,Fd,p'⟩,λx H' y=>?_⟩;obtain ⟨e,y⟩:=y;subst e y;exact hs i σ _ Fd p
 ·have e:i=n:=by omega
  subst e;exact .inl ⟨Nat.le_refl _,hd σ H p⟩
noncomputable abbrev R2:=V->V->Hp->VK->Prop
noncomputable def f9 (X:Cx)(f:Value->Value->Sem Value)(r:R2):Prop :=
 ∀ (pins:List (Addr × Obj))(s:Shared)(σ:St)(H:Hp)(x y:V)(v u:Value)(Q:VK),Inv X pins σ H s->aC x v->aC y u->r x y H Q →
   wpAny (model X.prog X.w) X.A (f v u) (EP X pins σ Q) X.xe s
noncomputable def Ex (X:Cx)(f:Value->Sem Value)(r:V->Hp->VK->Prop):Prop :=
 ∀ (pins:List (Addr × Obj))(s:Shared)(σ:St)(H:Hp)(x:V)(v:Value)(Q:VK),Inv X pins σ H s->aC x v->r x H Q →
   wpAny (model X.prog X.w) X.A (f v) (EP X pins σ Q) X.xe s
noncomputable def eT (X:Cx)(f:Value)(r:List V->Hp->VK->Prop):Prop :=
 ∀ (pins:List (Addr × Obj))(s:Shared)(σ:St)(H:Hp)(xs:List V)(us:List Value)(Q:VK),Inv X pins σ H s->aK xs us->r xs H Q →
   wpAny (model X.prog X.w) X.A (call f us) (EP X pins σ Q) X.xe s
noncomputable def DS (X:Cx)(r:V->Hp->(Bool->Hp->Prop)->Prop):Prop :=
 ∀ (pins:List (Addr × Obj))(s:Shared)(σ:St)(H:Hp)(x:V)(v:Value)(Q:Bool->Hp->Prop),Inv X pins σ H s->aC x v->r x H Q →
   wpAny (model X.prog X.w) X.A (truthy v) (TP X pins σ Q) X.xe s
noncomputable def oh (r:R2)(ta tb:TE):TE:=λσ H Q=>ta σ H λx H1=>tb σ H1 λy H2=>r x y H2 Q
noncomputable def E1 (r:V->Hp->VK->Prop)(ta:TE):TE:=λσ H Q=>ta σ H λx H1=>r x H1 Q
noncomputable def rI (C:Int->Int->Prop)(g:Int->Int->V):R2:=λx y H Q=>∃ i j,x = .int i/\y = .int j/\C i j/\Q (g i j) H
noncomputable def v8 (g:Int->Int->V):R2:=λx y H Q=>∃ i j,x = .int i/\y = .int j/\Q (g i j) H
noncomputable def rU (g:Int->V):V->Hp->VK->Prop:=λx H Q=>∃ i,x = .int i/\Q (g i) H
section
variable {X:Cx}{a b c:Expr}{ta tb tc:TE}{pos:Pos}
theorem BX (ha:PE X a ta)(hb:PE X b tb){pins:List (Addr × Obj)}{s:Shared}{σ:St}{H:Hp}{R:V->V->Hp->Prop}(I:Inv X pins σ H s)
 (h:ta σ H λx H1=>tb σ H1 λy H2=>R x y H2){Q:Value->Shared->Prop}{f:Value->Value->Sem Value}
 (hf:∀ v u s2 x y H2,Inv X pins σ H2 s2->aC x v->aC y u->R x y H2->wpAny (model X.prog X.w) X.A (f v u) Q X.xe s2):
 wpAny (model X.prog X.w) X.A (eval a X.env) (λv s₁=>wpAny (model X.prog X.w) X.A (eval b X.env) (λu s₂=>wpAny (model X.prog X.w) X.A (f v u) Q X.xe s₂) X.xe s₁) X.xe s:=by
 refine bR (ha pins s σ H _ I h) λv s1 ⟨x,H1,I1,r1,q1⟩=>?_;refine bR (hb pins s1 σ H1 _ I1 q1) λu s2 ⟨y,H2,I2,r2,q2⟩=>?_;exact hf v u s2 x y H2 I2 r1 r2 q2
theorem aJ {op:Operator}{r:R2}(ho:f9 X (binaryOp op) r)(ha:PE X a ta)(hb:PE X b tb):PE X (.BinOp a op b pos) (oh r ta tb):=by
 intro pins s σ H Q I h;exact wpAny_BinOp (BX ha hb I h λv u s2 x y H2 I2 rx ry q=>ho pins s2 σ H2 x y v u Q I2 rx ry q)
theorem Am {op:UnaryOp}{r:V->Hp->VK->Prop}(ho:Ex X (unaryOp op) r)(ha:PE X a ta):PE X (.UnaryOp op a pos) (E1 r ta):=by
 intro pins s σ H Q I h;exact UnaryOp_ (bR (ha pins s σ H _ I h) λv s1 ⟨x,H1,I1,r1,q1⟩=>ho pins s1 σ H1 x v Q I1 r1 q1)
theorem A5 {f:Value->Value->Sem Value}{C:Int->Int->Prop}{g:Int->Int->Int}
 (rule:∀ (i j:Int)(t u:Tok)(s:Shared)(Q:Value->Shared->Prop)(E:Value->Shared->Prop),C i j->Q (.int (g i j) s.toks) { s with toks:=s.toks + 1 }->wpAny (model X.prog X.w) X.A (f (.int i t) (.int j u)) Q E s):
 f9 X f (rI C λi j=>.int (g i j)):=by
 intro pins s σ H x y v u Q I rx ry h;obtain ⟨i,j,rfl,rfl,hc,q⟩:=h;obtain ⟨t,rfl⟩:=rx;obtain ⟨t',rfl⟩:=ry;exact rule i j t t' s _ _ hc ⟨.int (g i j),H,I.tok _,⟨_,rfl⟩,q⟩
theorem Dl {f:Value->Value->Sem Value}{g:Int->Int->Int}
 (rule:∀ (i j:Int)(t u:Tok)(s:Shared)(Q:Value->Shared->Prop)(E:Value->Shared->Prop),Q (.int (g i j) s.toks) { s with toks:=s.toks + 1 }->wpAny (model X.prog X.w) X.A (f (.int i t) (.int j u)) Q E s):
 f9 X f (v8 λi j=>.int (g i j)):=by
 intro pins s σ H x y v u Q I rx ry h;obtain ⟨i,j,rfl,rfl,q⟩:=h;obtain ⟨t,rfl⟩:=rx;obtain ⟨t',rfl⟩:=ry;exact rule i j t t' s _ _ ⟨.int (g i j),H,I.tok _,⟨_,rfl⟩,q⟩
theorem Ab {f:Value->Value->Sem Value}{g:Int->Int->Bool}
 (rule:∀ (i j:Int)(t u:Tok)(s:Shared)(Q:Value->Shared->Prop)(E:Value->Shared->Prop),Q (.bool (g i j)) s->wpAny (model X.prog X.w) X.A (f (.int i t) (.int j u)) Q E s):
 f9 X f (v8 λi j=>.bl (g i j)):=by
 intro pins s σ H x y v u Q I rx ry h;obtain ⟨i,j,rfl,rfl,q⟩:=h;obtain ⟨t,rfl⟩:=rx;obtain ⟨t',rfl⟩:=ry;exact rule i j t t' s _ _ ⟨.bl (g i j),H,I,rfl,q⟩
noncomputable def EE (i j:Int):Prop:=0 < j/\j < 1073741824
noncomputable def DW (i j:Int):Prop:=0<=j/\j<=1000000/\i.natAbs < 2 ^ 64
noncomputable def vw (i j:Int):Prop:=(-(2 ^ 64) < i/\i < 2 ^ 64)\/(-(2 ^ 64) < j/\j < 2 ^ 64)
theorem vw.ok {i j:Int}(h:vw i j):IntMulOk i j:=by
 rcases h with ⟨h1,h2⟩ | ⟨h1,h2⟩
 ·exact .of_left (intBits_le_64 h1 h2)
 ·exact .of_right (intBits_le_64 h1 h2)
theorem eA:f9 X (binaryOp .Add) (v8 λi j=>.int (i + j)):=Dl λ_ _ _ _ _ _ _ q=>add_int q
theorem wz:f9 X (binaryOp .Sub) (v8 λi j=>.int (i - j)):=Dl λ_ _ _ _ _ _ _ q=>sub_int q
theorem eE:f9 X (binaryOp .Mult) (rI vw λi j=>.int (i * j)):=A5 λ_ _ _ _ _ _ _ hc q=>mul_int q hc.ok
theorem yV:f9 X (binaryOp .FloorDiv) (rI EE λi j=>.int (i / j)):=A5 λi j _ _ _ _ _ hc q=>by
 have h1:(0:Int) < j:=hc.1;have h2:j < 1073741824:=hc.2;exact floordiv_int (by omega) (by rw [Int.fdiv_eq_ediv_of_nonneg i (by omega)]; exact q) (.inl (PyProof.noPylong_small (by omega)))
theorem dQ:f9 X (binaryOp .Mod) (rI (λ_ j=>0 < j) λi j=>.int (i % j)):=A5 λi j _ _ _ _ _ hc q=>by
 have h1:(0:Int) < j:=hc;exact mod_int' (by omega) (by rw [Int.fmod_eq_emod_of_nonneg i (by omega)]; exact q)
theorem sk:f9 X (binaryOp .Mod) (rI (λ_ j=>j≠0) λi j=>.int (i.fmod j)):=A5 λ_ _ _ _ _ _ _ hc q=>mod_int' hc q
theorem iO:f9 X (binaryOp .Pow) (rI DW λi j=>.int (i ^ j.toNat)):=A5 λ_ _ _ _ _ _ _ hc q=>pow_int_small hc.1 hc.2.1 hc.2.2 q
theorem E6 {f:Value->Sem Value}{g:Int->Int}
 (rule:∀ (i:Int)(t:Tok)(s:Shared)(Q:Value->Shared->Prop)(E:Value->Shared->Prop),Q (.int (g i) s.toks) { s with toks:=s.toks + 1 }->wpAny (model X.prog X.w) X.A (f (.int i t)) Q E s):
 Ex X f (rU λi=>.int (g i)):=by
 intro pins s σ H x v Q I rx h;obtain ⟨i,rfl,q⟩:=h;obtain ⟨t,rfl⟩:=rx;exact rule i t s _ _ ⟨.int (g i),H,I.tok _,⟨_,rfl⟩,q⟩
theorem xf:Ex X (unaryOp .USub) (rU λi=>.int (-i)):=E6 λ_ _ _ _ _ q=>neg_int q
end
noncomputable def Dv:V->V->Bool
 | .non,.non=>true | .non,.int _=>true | .int _,.non=>true | .non,.bl _=>true | .bl _,.non=>true | .non,.str _=>true | .str _,.non=>true
 | .int _,.int _=>true | .bl _,.bl _=>true | .str _,.str _=>true | .byt _,.byt _=>true
 | .int _,.str _=>true | .str _,.int _=>true | .bl _,.str _=>true | .str _,.bl _=>true
 | _,_=>false
noncomputable def rEq:R2:=λx y H Q=>Dv x y=true/\Q (.bl (decide (x=y))) H
noncomputable def rNe:R2:=λx y H Q=>Dv x y=true/\Q (.bl (!decide (x=y))) H
theorem sX {i j:Int}:decide (V.int i=V.int j)=(i == j):=by
 rw [Bool.eq_iff_iff];simp
theorem yj {i j:Bool}:decide (V.bl i=V.bl j)=(i == j):=by
 rw [Bool.eq_iff_iff];simp
theorem rT {i j:Str}:decide (V.str i=V.str j)=(i == j):=by
 rw [Bool.eq_iff_iff];simp
theorem tP {i j:Array UInt8}:decide (V.byt i=V.byt j)=(i.toList == j.toList):=by
 rw [Bool.eq_iff_iff]
 cases i
 cases j
 simp
section
variable {X:Cx}{a b c:Expr}{ta tb tc:TE}{pos:Pos}
theorem bf {pins:List (Addr × Obj)}{σ:St}{H:Hp}{s:Shared}{Q:VK}{k k':Bool}(I:Inv X pins σ H s)(q:Q (.bl k) H)(e:k=k'):EP X pins σ Q (.bool k') s:=by
 subst e;exact ⟨.bl k,H,I,rfl,q⟩
theorem d8:f9 X (compareOp .Eq) rEq:=by
 intro pins s σ H x y v u Q I rx ry h;obtain ⟨hs,q⟩:=h
 cases x with
 | non =>
   cases rx
   cases y with
   | non=>cases ry; exact PySem.EqNone.eq_none_none (bf I q (by simp))
   | bl j=>cases ry; exact PySem.EqNone.eq_none_bool (bf I q (by simp))
   | int j=>obtain ⟨t',rfl⟩:=ry; exact PySem.EqNone.eq_none_int (bf I q (by simp))
   | str j=>obtain ⟨t',rfl⟩:=ry; exact PySem.EqNone.eq_none_str (bf I q (by simp))
   | _=>exact absurd (show false=true from hs) Bool.false_ne_true
 | bl i =>
   cases rx
   cases y with
   | non=>cases ry; exact PySem.EqNone.eq_bool_none (bf I q (by simp))
   | bl j=>cases ry; exact eq_bool (bf I q yj)
   | str j=>obtain ⟨t',rfl⟩:=ry; exact PySem.EqMixed.eq_bool_str (bf I q (by simp))
   | _=>exact absurd (show false=true from hs) Bool.false_ne_true
 | int i =>
   obtain ⟨t,rfl⟩:=rx
   cases y with
   | non=>cases ry; exact PySem.EqNone.eq_int_none (bf I q (by simp))
   | int j=>obtain ⟨t',rfl⟩:=ry; exact eq_int (bf I q sX)
   | str j=>obtain ⟨t',rfl⟩:=ry; exact PySem.EqMixed.eq_int_str (bf I q (by simp))
   | _=>exact absurd (show false=true from hs) Bool.false_ne_true
 | str i =>
   obtain ⟨t,rfl⟩:=rx
   cases y with
   | non=>cases ry; exact PySem.EqNone.eq_str_none (bf I q (by simp))
   | bl j=>cases ry; exact PySem.EqMixed.eq_str_bool (bf I q (by simp))
   | int j=>obtain ⟨t',rfl⟩:=ry; exact PySem.EqMixed.eq_str_int (bf I q (by simp))
   | str j=>obtain ⟨t',rfl⟩:=ry; exact eq_str (bf I q rT)
   | _=>exact absurd (show false=true from hs) Bool.false_ne_true
 | byt i =>
   obtain ⟨t,rfl⟩:=rx
   cases y with
   | byt j=>obtain ⟨t',rfl⟩:=ry; exact PySem.W.eq_bytes (bf I q tP)
   | _=>exact absurd (show false=true from hs) Bool.false_ne_true
 | _=>cases y <;> exact absurd (show false=true from hs) Bool.false_ne_true
theorem gm:f9 X (compareOp .NotEq) rNe:=by
 intro pins s σ H x y v u Q I rx ry h;obtain ⟨hs,q⟩:=h
 cases x with
 | non =>
   cases rx
   cases y with
   | non=>cases ry; exact PySem.EqNone.ne_none_none (bf I q (by simp))
   | bl j=>cases ry; exact PySem.EqNone.ne_none_bool (bf I q (by simp))
   | int j=>obtain ⟨t',rfl⟩:=ry; exact PySem.EqNone.ne_none_int (bf I q (by simp))
   | str j=>obtain ⟨t',rfl⟩:=ry; exact PySem.EqNone.ne_none_str (bf I q (by simp))
   | _=>exact absurd (show false=true from hs) Bool.false_ne_true
 | bl i =>
   cases rx
   cases y with
   | non=>cases ry; exact PySem.EqNone.ne_bool_none (bf I q (by simp))
   | bl j=>cases ry; exact ne_bool (bf I q (congrArg not yj))
   | str j=>obtain ⟨t',rfl⟩:=ry; exact PySem.EqMixed.ne_bool_str (bf I q (by simp))
   | _=>exact absurd (show false=true from hs) Bool.false_ne_true
 | int i =>
   obtain ⟨t,rfl⟩:=rx
   cases y with
   | non=>cases ry; exact PySem.EqNone.ne_int_none (bf I q (by simp))
   | int j=>obtain ⟨t',rfl⟩:=ry; exact ne_int (bf I q (congrArg not sX))
   | str j=>obtain ⟨t',rfl⟩:=ry; exact PySem.EqMixed.ne_int_str (bf I q (by simp))
   | _=>exact absurd (show false=true from hs) Bool.false_ne_true
 | str i =>
   obtain ⟨t,rfl⟩:=rx
   cases y with
   | non=>cases ry; exact PySem.EqNone.ne_str_none (bf I q (by simp))
   | bl j=>cases ry; exact PySem.EqMixed.ne_str_bool (bf I q (by simp))
   | int j=>obtain ⟨t',rfl⟩:=ry; exact PySem.EqMixed.ne_str_int (bf I q (by simp))
   | str j=>obtain ⟨t',rfl⟩:=ry; exact ne_str (bf I q (congrArg not rT))
   | _=>exact absurd (show false=true from hs) Bool.false_ne_true
 | byt i =>
   obtain ⟨t,rfl⟩:=rx
   cases y with
   | byt j=>obtain ⟨t',rfl⟩:=ry; exact PySem.W.ne_bytes (bf I q (congrArg not tP))
   | _=>exact absurd (show false=true from hs) Bool.false_ne_true
 | _=>cases y <;> exact absurd (show false=true from hs) Bool.false_ne_true
theorem jJ:f9 X (compareOp .Lt) (v8 λi j=>.bl (decide (i < j))):=Ab λ_ _ _ _ _ _ _ q=>lt_int q
theorem wB:f9 X (compareOp .LtE) (v8 λi j=>.bl (decide (i<=j))):=Ab λ_ _ _ _ _ _ _ q=>le_int q
theorem pz:f9 X (compareOp .Gt) (v8 λi j=>.bl (decide (j < i))):=Ab λ_ _ _ _ _ _ _ q=>gt_int q
theorem AB:f9 X (compareOp .GtE) (v8 λi j=>.bl (decide (j<=i))):=Ab λ_ _ _ _ _ _ _ q=>ge_int q
theorem BP:f9 X (compareOp .Is) (λx y H Q=>y = .non/\Q (.bl (decide (x = .non))) H):=by
 intro pins s σ H x y v u Q I rx ry h;obtain ⟨rfl,q⟩:=h
 cases ry
 refine is_none_gen (bf I q ?_)
 cases x <;> first
  | (cases rx; rfl)
  | (obtain ⟨t,rfl⟩:=rx; rfl)
theorem aI (b:Expr){op:CmpOp}(h:op ≠ .In:=by decide)(h2:op ≠ .NotIn:=by decide):behindInMarks op b=false:=by
 have e1:(op == CmpOp.In)=false:=by cases op <;> first | rfl | exact absurd rfl h
 have e2:(op == CmpOp.NotIn)=false:=by cases op <;> first | rfl | exact absurd rfl h2
 cases b <;> simp [behindInMarks,e1,e2]
theorem bZ {op:CmpOp}{r:R2}(ho:f9 X (compareOp op) r)(ha:PE X a ta)(hb:PE X b tb)(hm:behindInMarks op b=false):PE X (.Compare a [op] [b] pos) (oh r ta tb):=by
 intro pins s σ H Q I h;exact wpAny_Compare1 (BX ha hb I h λv u s2 x y H2 I2 rx ry q=>ho pins s2 σ H2 x y v u Q I2 rx ry q) hm
noncomputable def sj (t:TE):TT:=λσ H Q=>t σ H λx H'=>∃ k,x = .bl k/\Q k H'
theorem aQ {op:CmpOp}{r:R2}(ho:f9 X (compareOp op) r)(ha:PE X a ta)(hb:PE X b tb)(hm:behindInMarks op b=false):PT X (.Compare a [op] [b] pos) (sj (oh r ta tb)):=by
 intro pins s σ H Q I h
 refine wpAny_isTrue_Compare1 (bR (ha pins s σ H _ I h) λv s1 ⟨x,H1,I1,r1,q1⟩=>bR (hb pins s1 σ H1 _ I1 q1) λu s2 ⟨y,H2,I2,r2,q2⟩ =>
  bR (ho pins s2 σ H2 x y v u _ I2 r1 r2 q2) λc s3 ⟨z,H3,I3,r3,k,e,q3⟩=>?_) hm
 subst e
 cases r3
 exact wpAny_truthy_bool ⟨H3,I3,q3⟩
noncomputable def Bo (r r':R2)(ta tb tc:TE):TE:=λσ H Q=>ta σ H λx H1=>tb σ H1 λy H2=>r x y H2 λz H3=>∃ k,z = .bl k /\
 (if k=true then tc σ H3 λw' H4=>r' y w' H4 Q else Q (.bl false) H3)
theorem kf {op Sh:CmpOp}{r r':R2}(ho:f9 X (compareOp op) r)(FZ:f9 X (compareOp Sh) r')(ha:PE X a ta)(hb:PE X b tb)(hc:PE X c tc)
 (hm:lastMarks [op,Sh] [b,c]=false:=by with_unfolding_all rfl):PE X (.Compare a [op,Sh] [b,c] pos) (Bo r r' ta tb tc):=by
 intro pins s σ H Q I h
 refine Compare_chain (bR (ha pins s σ H _ I h) λv s1 ⟨x,H1,I1,r1,q1⟩=>chain_link (bR (hb pins s1 σ H1 _ I1 q1) λu s2 ⟨y,H2,I2,r2,q2⟩ =>
  bR (ho pins s2 σ H2 x y v u _ I2 r1 r2 q2) λd s3 ⟨z,H3,I3,r3,k,e,q3⟩=>?_)) hm
 subst e
 cases r3
 refine wpAny_truthy_bool ?_
 cases k with
 | false=>exact ite_ff ⟨.bl false,H3,I3,rfl,q3⟩
 | true=>exact ite_tt (chain_last (bR (hc pins s3 σ H3 _ I3 q3) λw' s4 ⟨z',H4,I4,r4,q4⟩=>FZ pins s4 σ H4 y z' u w' Q I4 r2 r4 q4))
noncomputable def Dz (K:PySem.W.Frag)(x:V)(H:Hp)(k:Bool):Prop :=
 match x with
 | .non=>k=false
 | .bl b=>k=b
 | .int i=>k=(i != 0)
 | .str y=>y.length<=sizeLine/\k=((y.length:Int) != 0)
 | .byt y=>y.size<=sizeLine/\k=((y.size:Int) != 0)
 | .ref p=>(∃ xs,bu K H p xs/\k = !xs.isEmpty)\/(∃ xs,a9 K H p xs/\k = !xs.isEmpty)\/∃ E9,H p=some (.dK E9)/\k = !E9.isEmpty
 | _=>False
theorem qK {κ:Type}{E9:List (κ × V)}{vs:List (κ × Value)}(r:KV E9 vs):(!vs.isEmpty) = !E9.isEmpty:=by
 cases r <;> rfl
theorem kE {xs:List V}{its:List Value}(r:aK xs its):(!its.toArray.isEmpty) = !xs.isEmpty:=by
 cases r <;> simp
theorem kh:(sizeLine:Nat) < 2 ^ 63:=by rw [sizeLine_eq]; decide
theorem BA:DS X (λx H Q=>∃ k,Dz X.K x H k/\Q k H):=by
 intro pins s σ H x v Q I rx h;obtain ⟨k,e,q⟩:=h;have hl:=kh;have hs:sizeLine=16777216:=sizeLine_eq
 cases x with
 | non =>
   cases rx
   have e':k=false:=e;subst e';exact truthy_none ⟨H,I,q⟩
 | bl b =>
   cases rx
   have e':k=b:=e;subst e';exact wpAny_truthy_bool ⟨H,I,q⟩
 | int i =>
   obtain ⟨t,rfl⟩:=rx;have e':k=(i != 0):=e;subst e';exact PySem.P.truthy_int ⟨H,I,q⟩
 | str y =>
   obtain ⟨t,rfl⟩:=rx;obtain ⟨hy,e'⟩:y.length<=sizeLine/\k=((y.length:Int) != 0):=e;subst e';exact PySem.P.truthy_str (by omega) ⟨H,I.tok _,q⟩
 | byt y =>
   obtain ⟨t,rfl⟩:=rx;obtain ⟨hy,e'⟩:y.size<=sizeLine/\k=((y.size:Int) != 0):=e;subst e';exact PySem.W.truthy_bytes (by omega) ⟨H,I.tok _,q⟩
 | ref p =>
   cases rx
   have e':(∃ xs,bu X.K H p xs/\k = !xs.isEmpty)\/(∃ xs,a9 X.K H p xs/\k = !xs.isEmpty)\/∃ E9,H p=some (.dK E9)/\k = !E9.isEmpty:=e
   rcases e' with ⟨xs,hx,e'⟩ | ⟨xs,hx,e'⟩ | ⟨E9,hx,e'⟩
   ·subst e';obtain ⟨its,r,pl,hz⟩:=I.list hx;have hlen:=r.length;exact wpAny_truthy_list pl.isList (by simp only [List.size_toArray]; omega) ⟨H,I.tok _,by rw [kE r]; exact q⟩
   ·subst e';obtain ⟨its,r,pl,hz⟩:=I.tuple hx;have hlen:=r.length;exact truthy_tuple pl (by simp only [List.size_toArray]; omega) ⟨H,I.tok _,by rw [kE r]; exact q⟩
   ·subst e';obtain ⟨hz,hS,vs,r,m⟩:E9.length<=sizeLine/\(p == sysModules)=false/\∃ vs,KV E9 vs/\s.heap.DictOf (bQ X.prog X.w) p vs:=I.hok p _ hx;have hlen:E9.length=vs.length:=Paired.length r;exact wpAny_truthy_dict hS m (by omega) ⟨H,I.tok _,by rw [qK r]; exact q⟩
 | _=>exact (show False from e).elim
theorem ku (ha:PE X a ta)(he:∀ dt,isTrue a X.env dt=(do let v <-dt; standAt a.pos; holding [v] (truthy v))):
 PT X a (λσ H Q=>ta σ H λx H'=>∃ k,Dz X.K x H' k/\Q k H'):=by
 intro pins s σ H Q I h;exact isTrue_plain (bR (ha pins s σ H _ I h) λv s1 ⟨x,H1,I1,r1,q1⟩=>BA pins s1 σ H1 x v Q I1 r1 q1) (he _)
theorem gf {x:V}{us:List Value}(r:aK [x] us):∃ u,us=[u]/\aC x u:=by
 cases r with
 | cons r1 r2=>cases r2; exact ⟨_,rfl,r1⟩
theorem wu {x y:V}{us:List Value}(r:aK [x,y] us):∃ u w',us=[u,w']/\aC x u/\aC y w':=by
 cases r with
 | cons r1 r2 =>
   cases r2 with
   | cons r3 r4=>cases r4; exact ⟨_,_,rfl,r1,r3⟩
theorem gZ:eT X (.builtin "abs") (λxs H Q=>∃ i,xs=[.int i]/\Q (.int (if i < 0 then -i else i)) H):=by
 intro pins s σ H xs us Q I r h;obtain ⟨i,rfl,q⟩:=h;obtain ⟨u,rfl,t,rfl⟩:=gf r;exact call_abs_int λu tk=>⟨.int (if i < 0 then -i else i),H,I.tok _,⟨_,rfl⟩,q⟩
theorem u6 (hc:X.calm=true):eT X (.builtin "max") (λxs H Q=>∃ i j,xs=[.int i,.int j]/\Q (.int (if j > i then j else i)) H):=by
 intro pins s σ H xs us Q I r h;obtain ⟨i,j,rfl,q⟩:=h;obtain ⟨u,w',rfl,⟨t,rfl⟩,⟨t',rfl⟩⟩:=wu r;refine max_two_ints (I.ok.hd hc) λh' tk k=>⟨_,H,I.kept k,?_,q⟩
 by_cases hj:j > i
 ·rw [if_pos hj,if_pos hj]; exact ⟨_,rfl⟩
 ·rw [if_neg hj,if_neg hj]; exact ⟨_,rfl⟩
theorem uX (hc:X.calm=true):eT X (.builtin "min") (λxs H Q=>∃ i j,xs=[.int i,.int j]/\Q (.int (if j < i then j else i)) H):=by
 intro pins s σ H xs us Q I r h;obtain ⟨i,j,rfl,q⟩:=h;obtain ⟨u,w',rfl,⟨t,rfl⟩,⟨t',rfl⟩⟩:=wu r;refine min_two_ints (I.ok.hd hc) λh' tk k=>⟨_,H,I.kept k,?_,q⟩
 by_cases hj:j < i
 ·rw [if_pos hj,if_pos hj]; exact ⟨_,rfl⟩
 ·rw [if_neg hj,if_neg hj]; exact ⟨_,rfl⟩
theorem ig:eT X (.type "int") (λxs H Q=>(∃ i,xs=[.int i]/\Q (.int i) H)\/∃ k,xs=[.bl k]/\Q (.int (if k then 1 else 0)) H):=by
 intro pins s σ H xs us Q I r h
 rcases h with ⟨i,rfl,q⟩ | ⟨k,rfl,q⟩
 ·obtain ⟨u,rfl,t,rfl⟩:=gf r;exact call_int_int ⟨.int i,H,I,⟨_,rfl⟩,q⟩
 ·obtain ⟨u,rfl,r1⟩:=gf r
  cases r1
  exact call_int_bool ⟨.int (if k then 1 else 0),H,I.tok _,⟨_,rfl⟩,q⟩
end
structure ObjM (h:Heap)(x dx C:Addr)(mA:Str->Option Value):Prop where
 obj:h.get? x=some (PySem.W.instObj C dx)
 ns:h.Ns1 dx mA
 ne:dx≠x
theorem ur {h:Heap}{dx:Addr}{mA:Str->Option Value}(n:h.Ns1 dx mA):∃ od,h.get? dx=some od/\∀ name,PySem.W.lookIn name od=some (mA name):=by
 obtain ⟨o,es,ep,ho,hd,hk,_,hm⟩:=n;refine ⟨o,ho,λname=>?_⟩;have e:=hm name;unfold nsFind findBy at e;rw [<-Array.find?_toList] at e;unfold PySem.W.lookIn;rw [hd];dsimp only
 split
 ·rename_i y q
  rw [q] at e;exact congrArg some e
 ·rename_i q
  rw [q] at e
  have a:es.toList.any (·.refKey)=false:=by
   rw [List.any_eq_false];intro y hy;obtain ⟨z,t,Si⟩:=hk y (Array.mem_toList_iff.mp hy);simp [DictEntry.refKey,Si]
  have a':¬ es.toList.any (·.refKey)=true:=by rw [a]; exact Bool.false_ne_true
  rw [if_neg a'];exact congrArg some e
theorem ObjM.look {h:Heap}{x dx C:Addr}{mA:Str->Option Value}(I:ObjM h x dx C mA):∃ od,PySem.W.InstAt h x (PySem.W.instObj C dx) C (some od)/\∀ name,PySem.W.lookIn name od=some (mA name):=
 let ⟨od,ho,hl⟩:=ur I.ns
 ⟨od,⟨I.obj,rfl,rfl,ho⟩,hl⟩
section
variable {prog:Program}{w:World}{A:Around}{E:Value->Shared->Prop}{s:Shared}{K:PySem.W.Frag}{x dx C f:Addr}{mA:Str->Option Value}{name:Str}{v:Value}
theorem zO {expr:Bool}{Q:Value->Shared->Prop}(X:K.In s.heap)(I:ObjM s.heap x dx C mA)(hg:PySem.W.plainGet K C name=true)(hh:PySem.W.hasDictIn K C=true)
 (ha:PySem.W.findIn K (.ref C) name=some none)(hv:mA name=some v)(YC:PySem.W.handedIn v=true)(h:Q v { s with toks:=s.toks + 1 }):
 wpAny (model prog w) A (getAttr (.ref x) name expr) Q E s:=by
 obtain ⟨od,J,hl⟩:=I.look;exact PySem.W.get_value X J (PySem.W.plainGet_of hg).1 (PySem.W.findObj_own hh ha rfl (by rw [hl,hv])) YC h
theorem vS {pl:Sem Bool}{Q:Value × List Value->Shared->Prop}(X:K.In s.heap)(I:ObjM s.heap x dx C mA)(hg:PySem.W.plainGet K C name=true)
 (hf:PySem.W.findIn K (.ref C) name=some (some (.ref f)))(ht:PySem.W.isFn K (.ref f)=true)(hv:mA name=none)(h:Q (.ref f,[.ref x]) s):
 wpAny (model prog w) A (getMethod (.ref x) name pl) Q E s:=by
 obtain ⟨od,J,hl⟩:=I.look;exact PySem.W.method_fn X J (PySem.W.plainGet_of hg).1 (PySem.W.plainGet_of hg).2 hf (beq_iff_eq.mp ht) (by show (PySem.W.lookIn name od).map (·.isSome)=some false; rw [hl,hv]; rfl) h
theorem zp {ns:List Str}{Q:Unit->Shared->Prop}(X:K.In s.heap)(I:ObjM s.heap x dx C mA)
 (hs:PySem.W.findIn K (.ref C) "__setattr__"=some (some (.builtin "object.__setattr__")))(hp:PySem.W.plainOver K C=true)(ht:PySem.W.takerIn K C name=some none)(hh:PySem.W.hasDictIn K C=true)
 (hw:PySem.Within mA ns)(hsz:ns.length<=sizeLine)
 (h:∀ h',ObjM h' x dx C (λy=>if y=name then some v else mA y)->Heap.SameBut dx s.heap h'->Q () { s with heap:=h',toks:=s.toks + 2 }):
 wpAny (model prog w) A (setAttr (.ref x) name v) Q E s:=by
 obtain ⟨od,J,hl⟩:=I.look;refine PySem.W.set_plain X J hs (PySem.W.osa_open (s:={ s with toks:=s.toks + 1 }) (r:=none) X J hp ht λb=>?_);obtain ⟨cd,hc,R8⟩:=PySem.W.any_some hh;have hx:s.heap.get? x=some ⟨.ref C,some dx,.plain,#[]⟩:=I.obj;refine wpAny_bind (wpAny_pure (wpAny_bind (wpAny_bind (wpAny_loadPart hx (wpAny_bind (PySem.W.Looks.here (s:={ s with toks:=s.toks + 1 }) (PySem.W.looks_clsIn X hc) ?_))))));rw [R8];refine wpAny_pure (a:=some dx) (wpAny_bind (wpAny_pure (wpAny_bind ?_)));refine wpAny_nsSet1 (s:={ s with toks:=s.toks + 1 }) I.ns λh' Mw My=>?_;obtain ⟨oD,esD,epD,YD,YE,Jk⟩:=Mw.count (PySem.Within.cons name v hw);refine wpAny_bind (wpAny_lookBehind YD (by rw [YE]; exact pastItsLine_dict (Nat.le_trans Jk (by rw [List.length_cons]; omega))) ?_);exact wpAny_pure (h _ ⟨(My.2 _ (Ne.symm I.ne)).trans I.obj,Mw,I.ne⟩ My)
theorem xB {R:Result->Shared->Prop}{vs:List Value}{kw:List (Str × Value)}(X:K.In s.heap)(hm:PySem.W.makesIn K C=true)
 (hi:PySem.W.findIn K (.ref C) "__init__"=some (some (.ref f)))(hf:PySem.W.typeIn K (.ref f)=some (.type "function"))
 (h:codeAny (model prog w) (A.under (.builtin "type.__call__" ⟨.ref C :: vs,kw⟩)) (.call (.ref f) ⟨.ref (s.heap.objs.size + 1):: vs,kw⟩) (PySem.W.InitBack (s.heap.objs.size + 1) R)
  { s with heap:=(s.heap.push PySem.W.emptyDict).push (PySem.W.instObj C s.heap.objs.size) }):
 codeAny (model prog w) A (.call (.ref C) ⟨vs,kw⟩) R s:=by
 obtain ⟨hh,g,d,t,os⟩:=s;exact PySem.W.make_core (PySem.W.makes_of X hm) (PySem.W.looks_findIn X hi) (λself=>PySem.W.bind_fn X self hf) (.inl rfl) h
end
noncomputable def dw (f:Str)(v:V):List (Str × V)->List (Str × V)
 | []=>[(f,v)]
 | (g,x):: r=>if g=f then (g,v):: r else (g,x):: dw f v r
theorem iU (f g:Str)(v:V):∀ fs:List (Str × V),(dw f v fs).lookup g=if g=f then some v else fs.lookup g
 | []=>by
   show List.lookup g [(f,v)]=_
   by_cases h:g=f
   ·have hb:(g == f)=true:=beq_iff_eq.mpr h;simp only [List.lookup,hb,if_pos h]
   ·have hb:(g == f)=false:=beq_eq_false_iff_ne.mpr h;simp only [List.lookup,hb,if_neg h]
 | (k,x):: r=>by
   have ih:=iU f g v r;rw [show dw f v ((k,x):: r)=(if k=f then (k,v):: r else (k,x):: dw f v r) from rfl]
   by_cases hk:k=f
   ·rw [if_pos hk]
    by_cases h:g=k
    ·have hb:(g == k)=true:=beq_iff_eq.mpr h;simp only [List.lookup,hb,if_pos (h.trans hk)]
    ·have hb:(g == k)=false:=beq_eq_false_iff_ne.mpr h;simp only [List.lookup,hb,if_neg (λe:g=f=>h (e.trans hk.symm))]
   ·rw [if_neg hk]
    by_cases h:g=k
    ·have hb:(g == k)=true:=beq_iff_eq.mpr h;simp only [List.lookup,hb,if_neg (λe:g=f=>hk (h.symm.trans e))]
    ·have hb:(g == k)=false:=beq_eq_false_iff_ne.mpr h;simp only [List.lookup,hb];exact ih
theorem iy (f:Str)(v:V):∀ fs:List (Str × V),f∈(dw f v fs).map (·.1)/\∀ g,g∈fs.map (·.1)->g∈(dw f v fs).map (·.1)
 | []=>⟨by simp [dw],λg h=>by simp at h⟩
 | (k,x):: r=>by
   obtain ⟨i1,i2⟩:=iy f v r;rw [show dw f v ((k,x):: r)=(if k=f then (k,v):: r else (k,x):: dw f v r) from rfl]
   by_cases hk:k=f
   ·rw [if_pos hk];subst hk;exact ⟨by simp,λg h=>by simpa using h⟩
   ·rw [if_neg hk];refine ⟨?_,λg h=>?_⟩
    ·rw [List.map_cons];exact List.mem_cons_of_mem _ i1
    ·rw [List.map_cons] at h |-
     rcases List.mem_cons.mp h with e | e
     ·exact List.mem_cons.mpr (.inl e)
     ·exact List.mem_cons_of_mem _ (i2 g e)
theorem iW (f:Str)(v:V):∀ fs:List (Str × V),(dw f v fs).length<=fs.length + 1
 | []=>by simp [dw]
 | (k,x):: r=>by
   have ih:=iW f v r;rw [show dw f v ((k,x):: r)=(if k=f then (k,v):: r else (k,x):: dw f v r) from rfl]
   by_cases hk:k=f
   ·rw [if_pos hk,List.length_cons,List.length_cons]; omega
   ·rw [if_neg hk,List.length_cons,List.length_cons]; omega
theorem fE.some_of {v:V}{o:Option Value}(r:fE (some v) o):∃ u,o=some u/\aC v u:=by
 cases o with
 | none=>exact (show False from r).elim
 | some u=>exact ⟨u,rfl,r⟩
theorem fE.none_of {o:Option Value}(r:fE none o):o=none:=by
 cases o with
 | none=>rfl
 | some u=>exact (show False from r).elim
theorem uG {v:V}{u:Value}(r:aC v u):PySem.W.handedIn u=true:=by
 cases v with
 | non=>cases (show u=Value.none from r); rfl
 | bl b=>cases (show u=Value.bool b from r); rfl
 | int i=>obtain ⟨t,e⟩:=(show ∃ t,u=Value.int i t from r); cases e; rfl
 | str x=>obtain ⟨t,e⟩:=(show ∃ t,u=Value.str x t from r); cases e; rfl
 | byt b=>obtain ⟨t,e⟩:=(show ∃ t,u=Value.bytes b t from r); cases e; rfl
 | flt b=>obtain ⟨t,e⟩:=(show ∃ t,u=Value.float b t from r); cases e; rfl
 | ref a=>cases (show u=Value.ref a from r); rfl
 | ty n=>cases (show u=Value.type n from r); rfl
section
variable {P:Program}{w:World}{H H':Hp}{h h':Heap}{a C dx:Addr}{fs Yy:List (Str × V)}
theorem e9 (hok:eG P w H h)(e:H a=some (.ins C dx fs)):∃ mA,ObjM h a dx C mA/\(∀ f,fE (fs.lookup f) (mA f))/\PySem.Within mA (fs.map (·.1))/\fs.length<=1000/\H dx=some (.own a):=by
 obtain ⟨d,z,ne,ob,mA,n,r,q⟩:=(show ba P w H h a (.ins C dx fs) from hok a _ e);exact ⟨mA,⟨ob,n,ne⟩,r,q,z,d⟩
end
structure Cls (K:PySem.W.Frag)(C:Addr):Prop where
 pg:PySem.W.plainGet K C Str.empty=true
 hd:PySem.W.hasDictIn K C=true
 po:PySem.W.plainOver K C=true
 sa:PySem.W.findIn K (.ref C) "__setattr__"=some (some (.builtin "object.__setattr__"))
theorem Cls.get {K:PySem.W.Frag}{C:Addr}(c:Cls K C)(f:Str):PySem.W.plainGet K C f=true:=c.pg
noncomputable def dI (K:PySem.W.Frag)(C:Addr)(f:Str):Prop:=PySem.W.findIn K (.ref C) f=some none
theorem dI.taker {K:PySem.W.Frag}{C:Addr}{f:Str}(n:dI K C f):PySem.W.takerIn K C f=some none:=by
 unfold PySem.W.takerIn;rw [show PySem.W.findIn K (.ref C) f=some none from n];rfl
structure Meth (K:PySem.W.Frag)(C:Addr)(m:Str)(f:Addr):Prop where
 at_:PySem.W.findIn K (.ref C) m=some (some (.ref f))
 fn:PySem.W.isFn K (.ref f)=true
 kp:PySem.W.keepIn K (.ref f)=true
section
variable {X:Cx}{pins:List (Addr × Obj)}{σ:St}{H:Hp}{s:Shared}{a C dx:Addr}{fs:List (Str × V)}{f:Str}{v:V}{A:Around}{E:Value->Shared->Prop}
theorem p0 {b:Bool}{Q:Value->Shared->Prop}(I:Inv X pins σ H s)(e:H a=some (.ins C dx fs))(c:Cls X.K C)(n:dI X.K C f)(l:fs.lookup f=some v)
 (h:∀ u s',Inv X pins σ H s'->aC v u->Q u s'):wpAny (model X.prog X.w) A (getAttr (.ref a) f b) Q E s:=by
 obtain ⟨mA,O,r,_,_,_⟩:=e9 I.hok e;obtain ⟨u,hu,ru⟩:=fE.some_of (v:=v) (o:=mA f) (by rw [<-l]; exact r f);exact zO I.kIn O (c.get f) c.hd n hu (uG ru) (h u _ (I.tok _) ru)
theorem j3 {m:Str}{g:Addr}{pl:Sem Bool}{Q:Value × List Value->Shared->Prop}(I:Inv X pins σ H s)(e:H a=some (.ins C dx fs))(c:Cls X.K C)(k:Meth X.K C m g)(l:fs.lookup m=none)
 (h:Q (.ref g,[.ref a]) s):wpAny (model X.prog X.w) A (getMethod (.ref a) m pl) Q E s:=by
 obtain ⟨mA,O,r,_,_,_⟩:=e9 I.hok e;have hn:mA m=none:=fE.none_of (by rw [<-l]; exact r m);exact vS I.kIn O (c.get m) k.at_ k.fn hn h
theorem p8 {y:V}{u:Value}{Q:Unit->Shared->Prop}(I:Inv X pins σ H s)(e:H a=some (.ins C dx fs))(c:Cls X.K C)(n:dI X.K C f)(hl:fs.length < 1000)(ry:aC y u)
 (h:∀ s',Inv X pins σ (upd H a (.ins C dx (dw f y fs))) s'->Q () s'):wpAny (model X.prog X.w) A (setAttr (.ref a) f u) Q E s:=by
 obtain ⟨mA,O,r,wi,_,ho⟩:=e9 I.hok e
 have hz:(fs.map (·.1)).length<=sizeLine:=by rw [List.length_map,sizeLine_eq]; omega
 refine zp I.kIn O c.sa c.po n.taker c.hd wi hz λh' O' sb=>h _ ?_;have hd:∃ o,h'.get? dx=some o:=let ⟨o,_,_,e',_⟩:=O'.ns; ⟨o,e'⟩;refine I.write (x:=a) (e:=dx) (by rw [e]; exact True.intro) (.inr ho) (λb q hb z=>(sb.2 b hb).trans z) hd ?_;refine ⟨by rw [ao O.ne]; exact ho,?_,O.ne,O'.obj,_,O'.ns,λg=>?_,λg hg=>?_⟩
 ·have:=iW f y fs; omega
 ·show fE ((dw f y fs).lookup g) (if g=f then some u else mA g);rw [iU]
  by_cases q:g=f
  ·rw [if_pos q,if_pos q]; exact ry
  ·rw [if_neg q,if_neg q]; exact r g
 ·by_cases q:g=f
  ·rw [q]; exact (iy f y fs).1
  ·refine (iy f y fs).2 g (wi g λz=>hg ?_);show (if g=f then some u else mA g)=none;rw [if_neg q]; exact z
theorem Inv.made (I:Inv X pins σ H s):Inv X pins σ (upd (upd H s.heap.objs.size (.own (s.heap.objs.size + 1))) (s.heap.objs.size + 1) (.ins C s.heap.objs.size []))
 { s with heap:=(s.heap.push PySem.W.emptyDict).push (PySem.W.instObj C s.heap.objs.size) }:=by
 have e1:(s.heap.push PySem.W.emptyDict).get? s.heap.objs.size=some PySem.W.emptyDict:=Heap.get?_push_size s.heap rfl
 have e2:((s.heap.push PySem.W.emptyDict).push (PySem.W.instObj C s.heap.objs.size)).get? (s.heap.objs.size + 1)=some (PySem.W.instObj C s.heap.objs.size):=by
  have:=Heap.get?_push_size (s.heap.push PySem.W.emptyDict) (o:=PySem.W.instObj C s.heap.objs.size) rfl;rwa [Heap.size_push] at this
 have e3:(s.heap.push PySem.W.emptyDict).Ns s.heap.objs.size (λ_=>none):=⟨PySem.W.emptyDict,#[],_,e1,rfl,(λe he=>absurd he (by simp)),λ_=>rfl⟩;have I1:=I.laid (a:=s.heap.objs.size) (o:=.own (s.heap.objs.size + 1)) (h':=s.heap.push PySem.W.emptyDict) (t':=s.toks) (λb u q=>Heap.get?_push_of_some _ q) (Nat.le_refl _) ⟨_,e1⟩;refine I1.laid (a:=s.heap.objs.size + 1) (o:=.ins C s.heap.objs.size []) (t':=s.toks) (λb u q=>Heap.get?_push_of_some _ q) (Nat.le_of_eq (Heap.size_push _ _)) ?_;have ne:s.heap.objs.size≠s.heap.objs.size + 1:=Nat.ne_of_lt (Nat.lt_succ_self _);refine ⟨by rw [ao ne,ah],Nat.zero_le _,ne,e2,λ_=>none,(Heap.Ns1.of_empty e3).at λo q=>Heap.get?_push_of_some _ q,λ_=>True.intro,λy hy=>absurd rfl hy⟩
theorem y8 {prog:Program}{w:World}{env:Env}{e:Expr}{f:Str}{pos:Pos}{s:Shared}{Q:Value->Shared->Prop}(hb:attributeBase e f env (eval e env)=eval e env)
 (h:wpAny (model prog w) A (eval e env) (λo s₁=>wpAny (model prog w) A (getAttr o f true) Q E s₁) E s):wpAny (model prog w) A (eval (.Attribute e f pos) env) Q E s :=
 Attribute_any_ h (by rw [arm_eval_Attribute,hb])
end
noncomputable def C5 (K:PySem.W.Frag)(ta:TE)(f:Str):TE:=λσ H Q=>ta σ H λx H1=>∃ a C dx fs v,x = .ref a/\H1 a=some (.ins C dx fs)/\Cls K C/\dI K C f/\fs.lookup f=some v/\Q v H1
noncomputable def D7 (K:PySem.W.Frag)(ta tv:TE)(f:Str):TS:=λD σ H=>tv σ H λy H1=>ta σ H1 λx H2=>∃ a C dx fs,x = .ref a/\H2 a=some (.ins C dx fs)/\Cls K C/\dI K C f/\fs.length < 1000 /\
 D.nx σ (upd H2 a (.ins C dx (dw f y fs)))
section
variable {X:Cx}{o e value:Expr}{f:Str}{pos pos' Sj:Pos}{ta tv:TE}
theorem bK (he:PE X e ta)(hb:attributeBase e f X.env (eval e X.env)=eval e X.env):PE X (.Attribute e f pos) (C5 X.K ta f):=by
 intro pins s σ H Q I h;refine y8 hb (bR (he pins s σ H _ I h) λu s1 ⟨x,H1,I1,rx,a,C,dx,fs,v,ex,ea,c,n,l,q⟩=>?_);subst ex;obtain rfl:u=Value.ref a:=rx;exact p0 I1 ea c n l λu' s2 I2 ru=>⟨v,H1,I2,ru,q⟩
theorem mr (ha:PE X o ta)(hv:PE X value tv)(hs:swapsWith value (some (.Attribute o f pos')) pos.line X.env=pure false):PS X (.Assign [.Attribute o f pos'] value pos) (D7 X.K ta tv f):=by
 intro pins s σ H D I h;refine plainObj_wpAny_Assign_Attribute (bR (hv pins s σ H _ I h) λu s1 ⟨y,H1,I1,ry,q⟩=>bR (ha pins s1 σ H1 _ I1 q) λov s2 ⟨x,H2,I2,rx,a,C,dx,fs,ex,ea,c,n,l,q2⟩=>?_) hs;subst ex;obtain rfl:ov=Value.ref a:=rx;exact p8 I2 ea c n l ry λs3 I3=>⟨σ,_,I3,q2⟩
end
section
variable {X:Cx}{pins:List (Addr × Obj)}{σ:St}{H:Hp}{s:Shared}{A:Around}{E:Value->Shared->Prop}{Q:Value->Shared->Prop}{c:Value}{b:Bool}
inductive TyOf (K:PySem.W.Frag)(H:Hp):V->Value->Prop where
 | non:TyOf K H .non (.type "NoneType")
 | bl (x:Bool):TyOf K H (.bl x) (.type "bool")
 | int (i:Int):TyOf K H (.int i) (.type "int")
 | str (x:Str):TyOf K H (.str x) (.type "str")
 | flt (x:UInt64):TyOf K H (.flt x) (.type "float")
 | lst {a:Addr}{xs:List V}(e:H a=some (.lst xs)):TyOf K H (.ref a) (.type "list")
 | frz {a:Addr}{o:Obj}{xs:List V}(e:H a=some (.frz o (.lst xs))):TyOf K H (.ref a) (.type "list")
 | tup {a:Addr}{xs:List V}(e:H a=some (.tup xs)):TyOf K H (.ref a) (.type "tuple")
 | dK {a:Addr}{E9:List (Key × V)}(e:H a=some (.dK E9)):TyOf K H (.ref a) (.type "dict")
 | dT {a:Addr}{E9:List (List Key × V)}(e:H a=some (.dT E9)):TyOf K H (.ref a) (.type "dict")
 | ins {a C dx:Addr}{fs:List (Str × V)}(e:H a=some (.ins C dx fs))(cl:Cls K C)(ha:PySem.W.findIn K (.ref C) "__class__"=some (some (.builtin "object.__class__")))
  (hn:PySem.W.specialIn K (.builtin "object.__class__") "__get__"=some (some (.builtin "getset_descriptor.__get__")))(M3:PySem.W.takesIn K (.builtin "object.__class__")=some true)
  (hm:PySem.W.mroIn K C (.type "object")=some true):TyOf K H (.ref a) (.ref C)
theorem vz {x:V}{u t:Value}(I:Inv X pins σ H s)(rx:aC x u)(ty:TyOf X.K H x t)(e:PySem.W.kitOne X.K t c=some b)(h:∀ tk,Q (.bool b) { s with toks:=tk }):
 wpAny (model X.prog X.w) A (call (.builtin "isinstance") [u,c]) Q E s:=by
 cases ty with
 | non=>cases (show u=Value.none from rx); exact PySem.W.kia_one PySem.W.kitx_none I.kIn True.intro e (λz=>nomatch z) h
 | bl y=>cases (show u=Value.bool y from rx); exact PySem.W.kia_one PySem.W.kitx_bool I.kIn True.intro e (λz=>nomatch z) h
 | int i=>obtain ⟨t,q⟩:=(show ∃ t,u=Value.int i t from rx); cases q; exact PySem.W.kia_one PySem.W.kitx_int I.kIn True.intro e (λz=>nomatch z) h
 | str y=>obtain ⟨t,q⟩:=(show ∃ t,u=Value.str y t from rx); cases q; exact PySem.W.kia_one PySem.W.kitx_str I.kIn True.intro e (λz=>nomatch z) h
 | flt y=>obtain ⟨t,q⟩:=(show ∃ t,u=Value.float y t from rx); cases q; exact PySem.W.kia_one PySem.W.kitx_float I.kIn True.intro e (λz=>nomatch z) h
 | @lst a xs ea =>
   cases (show u=Value.ref a from rx)
   obtain ⟨_,_,n,_,h1⟩:=(show ba X.prog X.w H s.heap a (.lst xs) from I.hok a _ ea);exact PySem.W.kia_one PySem.W.kitx_list I.kIn ⟨_,h1,rfl⟩ e (λz=>nomatch z) h
 | @frz a ob xs ea =>
   cases (show u=Value.ref a from rx)
   obtain ⟨_,_,_,n,_,h1⟩:=(show ba X.prog X.w H s.heap a (.frz ob (.lst xs)) from I.hok a _ ea);exact PySem.W.kia_one PySem.W.kitx_list I.kIn ⟨_,h1,rfl⟩ e (λz=>nomatch z) h
 | @tup a xs ea =>
   cases (show u=Value.ref a from rx)
   obtain ⟨_,_,_,p⟩:=(show ba X.prog X.w H s.heap a (.tup xs) from I.hok a _ ea);obtain ⟨o,h1,h2,_⟩:=p;exact PySem.W.kia_one PySem.W.kitx_tuple I.kIn ⟨o,h1,h2⟩ e (λz=>nomatch z) h
 | @dK a E9 ea =>
   cases (show u=Value.ref a from rx)
   obtain ⟨_,_,vs,_,p⟩:=(show ba X.prog X.w H s.heap a (.dK E9) from I.hok a _ ea);obtain ⟨o,es,ep,h1,h2,_⟩:=p;exact PySem.W.kia_one PySem.W.kitx_dict I.kIn ⟨o,h1,h2.1⟩ e (λz=>nomatch z) h
 | @dT a E9 ea =>
   cases (show u=Value.ref a from rx)
   obtain ⟨_,_,xs,_,o,es,ep,h1,h2,_⟩:=(show ba X.prog X.w H s.heap a (.dT E9) from I.hok a _ ea);exact PySem.W.kia_one PySem.W.kitx_dict I.kIn ⟨o,h1,h2.1⟩ e (λz=>nomatch z) h
 | @ins a C dx fs ea cl ha hn M3 hm =>
   cases (show u=Value.ref a from rx)
   obtain ⟨mA,O,_⟩:=e9 I.hok ea;obtain ⟨od,J,_⟩:=O.look;exact PySem.W.kia_one (PySem.W.kitx_own (cl.get _) cl.hd ha hn M3 hm) I.kIn J e (λz=>nomatch z) h
end
structure Room (k:Nat)(A:Around):Prop where
 hd:A.handled=none
 dp:A.depth + 3 * k + 5 < recursionLimit
 un:A.units + 16 * k + 200 < cLine
 gd:A.guards=some []
theorem Room.mono {j k:Nat}{A:Around}(r:Room k A)(h:j<=k):Room j A:=⟨r.hd,by have:=r.dp; omega,by have:=r.un; omega,r.gd⟩
theorem Room.deeper {k:Nat}{A:Around}(r:Room (k + 1) A)(env:Env):Room k (A.deeper env):=
 ⟨r.hd,by have:=r.dp; show A.depth + 1 + 3 * k + 5 < _; omega,by have:=r.un; show A.units + 3 + 16 * k + 200 < _; omega,r.gd⟩
theorem Room.in1 {k:Nat}{A:Around}(r:Room (k + 1) A):Room k A.in1 :=
 ⟨r.hd,by have:=r.dp; show A.depth + 3 * k + 5 < _; omega,by have:=r.un; show A.units + 1 + 16 * k + 200 < _; omega,r.gd⟩
theorem qw {A:Around}{C:Addr}{us:List Value}{kw:List (Str × Value)}:(A.under (.builtin "type.__call__" ⟨.ref C :: us,kw⟩)).depth=A.depth + 1:=by
 first | rfl | simp [Around.under,Code.weight,Code.isCreation,Code.isGuard,Code.isCaller,Code.frames,Code.isFrame,guardIds]
theorem oC {A:Around}{C:Addr}{us:List Value}{kw:List (Str × Value)}:(A.under (.builtin "type.__call__" ⟨.ref C :: us,kw⟩)).guards=A.guards:=by
 first | rfl | simp [Around.under,Code.guards,Code.isGuard,guardIds,pushGuards]
theorem rB {A:Around}{C:Addr}{us:List Value}{kw:List (Str × Value)}:(A.under (.builtin "type.__call__" ⟨.ref C :: us,kw⟩)).units=A.units + 1:=by
 first | rfl | simp [Around.under,Code.cUnits,Code.frames,Code.isFrame]
theorem Room.make {k:Nat}{A:Around}(r:Room (k + 1) A)(C:Addr)(us:List Value)(kw:List (Str × Value)):Room k (A.under (.builtin "type.__call__" ⟨.ref C :: us,kw⟩)):=
 ⟨r.hd,by have:=r.dp; rw [qw]; omega,by have:=r.un; rw [rB]; omega,by rw [oC]; exact r.gd⟩
theorem Room.depth {k:Nat}{A:Around}(r:Room k A):A.depth < recursionLimit:=by have:=r.dp; omega
theorem Room.units {k:Nat}{A:Around}(r:Room k A):A.units + 64 < cLine:=by have:=r.un; omega
theorem Room.units0 {k:Nat}{A:Around}(r:Room k A):A.units < cLine:=by have:=r.un; omega
noncomputable def tNil:TA:=λ_ H Q=>Q [] H
noncomputable def dZ (ta:TE)(tr:TA):TA:=λσ H Q=>ta σ H λx H1=>tr σ H1 λxs H2=>Q (x :: xs) H2
section
variable {X:Cx}{e:Expr}{es:List Expr}{te:TE}{t:TA}{pos:Pos}
theorem af:PA X [] tNil:=λ_ _ _ _ H Q I h=>Calls.spliced_nil ⟨[],H,I,.nil,h⟩
theorem aO (ha:PE X e te)(hr:PA X es t)(hs:starEach (e :: es) X.env=(false,eval e X.env):: starEach es X.env:=by rfl):PA X (e :: es) (dZ te t):=by
 intro pos pins s σ H Q I h;rw [hs];show wpAny _ _ (spliced ((false,eval e X.env):: backTo pos (starEach es X.env))) _ _ s;refine Calls.spliced_cons (bR (ha pins s σ H _ I h) λu s1 ⟨x,H1,I1,r1,q1⟩=>?_);exact bR (hr pos pins s1 σ H1 _ I1 q1) λus s2 ⟨xs,H2,I2,r2,q2⟩=>⟨x :: xs,H2,I2,.cons r1 r2,q2⟩
noncomputable def Dr (t:TA):TE:=λσ H Q=>t σ H λxs H1=>xs.length<=sizeLine/\∀ p,H1 p=none->Q (.ref p) (upd H1 p (.tup xs))
noncomputable def AQ (t:TA):TE:=λσ H Q=>t σ H λxs H1=>xs.length<=sizeLine/\∀ p,H1 p=none->Q (.ref p) (upd H1 p (.lst xs))
theorem bV {x1}(h:PA X es t):PE X (.Tuple es x1 pos) (Dr t):=by
 intro pins s σ H Q I hq;refine wpAny_Tuple_spliced (bR (h pos pins s σ H _ I hq) λus s1 ⟨xs,H1,I1,r,z,q⟩=>⟨by rw [<-r.length]; exact z,?_⟩);have hf:H1 s1.heap.objs.size=none:=I1.hok.fresh (Nat.le_refl _);refine ⟨.ref s1.heap.objs.size,upd H1 s1.heap.objs.size (.tup xs),I1.laid (t':=s1.toks) (λb u e=>Heap.get?_push_of_some _ e) (Nat.le_refl _) ?_,rfl,q _ hf⟩;exact ⟨z,us,r,⟨_,Heap.get?_push_size _ rfl,rfl,_,rfl⟩⟩
theorem cW (h:PA X es t):PE X (.List es pos) (AQ t):=by
 intro pins s σ H Q I hq;refine wpAny_List_spliced (bR (h pos pins s σ H _ I hq) λus s1 ⟨xs,H1,I1,r,z,q⟩=>⟨by rw [<-r.length]; exact z,?_⟩);have hf:H1 s1.heap.objs.size=none:=I1.hok.fresh (Nat.le_refl _);refine ⟨.ref s1.heap.objs.size,upd H1 s1.heap.objs.size (.lst xs),I1.laid (t':=s1.toks) (λb u e=>Heap.get?_push_of_some _ e) (Nat.le_refl _) ?_,rfl,q _ hf⟩;exact ⟨z,us,0,r,Heap.get?_push_size _ rfl⟩
end
noncomputable abbrev Sp:=List V->Hp->VK->XK->Prop
noncomputable abbrev CXT:=List Env->Hp->Shared->XK->Value->Shared->Prop
structure Env0 (P:Program)(w:World)(K:PySem.W.Frag)(mg:Str->Option Value)(base:Heap)(A:Around)(outer:List Env)(s:Shared)(H:Hp):Prop where
 frames:A.frames=some outer
 mod:Mod K mg base
 bs:∀ b o,base.get? b=some o->s.heap.get? b=some o/\H b=none
 bsz:base.objs.size<=s.heap.objs.size
 funs:s.heap.FunFrames base outer
 frf:∀ b∈df outer,H b=none
 hok:eG P w H s.heap
 bare:AllBare s.gens
noncomputable def CE (outer:List Env)(P:Program)(w:World)(H:Hp)(s:Shared)(Q:VK)(u:Value)(s':Shared):Prop :=
 ∃ v H',s'.os=s.os/\AllBare s'.gens/\Un (df outer) [] H H' s.heap s'.heap/\eG P w H' s'.heap/\aC v u/\Q v H'
noncomputable def CR (CX:CXT)(outer:List Env)(P:Program)(w:World)(H:Hp)(s:Shared)(Q:VK)(E:XK)(r:Result)(s':Shared):Prop :=
 match r with
 | .ok (.ret u)=>CE outer P w H s Q u s'
 | .ok _=>False
 | .error e=>CX outer H s E e s'
structure FnOk (P:Program)(w:World)(K:PySem.W.Frag)(mg:Str->Option Value)(base:Heap)(CX:CXT)(k:Nat)(f:Addr)(fd:FuncData)(ps:List Str)(sp:Sp):Prop where
 len:∀ vs H Q E,sp vs H Q E->vs.length=ps.length
 run:∀ (A:Around)(outer:List Env)(s:Shared)(H:Hp)(args:Args)(us:List Value)(vs:List V)(Q:VK)(E:XK),Room k A->Env0 P w K mg base A outer s H->BindsTo s fd args (ps.zip us)->aK vs us->sp vs H Q E →
  codeAny (model P w) A (.call (.ref f) args) (CR CX outer P w H s Q E) s
theorem Env0.make {P:Program}{w:World}{K:PySem.W.Frag}{mg:Str->Option Value}{base:Heap}{A:Around}{outer:List Env}{s:Shared}{H:Hp}(e:Env0 P w K mg base A outer s H)(C:Addr)(us:List Value)(kw:List (Str × Value)):
 Env0 P w K mg base (A.under (.builtin "type.__call__" ⟨.ref C :: us,kw⟩)) outer s H:=⟨by first | exact e.frames | (simpa [Around.under,Code.envs,Code.isFrame,pushEnvs] using e.frames),e.mod,e.bs,e.bsz,e.funs,e.frf,e.hok,e.bare⟩
theorem Env0.in1 {P:Program}{w:World}{K:PySem.W.Frag}{mg:Str->Option Value}{base:Heap}{A:Around}{outer:List Env}{s:Shared}{H:Hp}(e:Env0 P w K mg base A outer s H):
 Env0 P w K mg base A.in1 outer s H:=⟨e.frames,e.mod,e.bs,e.bsz,e.funs,e.frf,e.hok,e.bare⟩
section
variable {X:Cx}{pins:List (Addr × Obj)}{σ:St}{H:Hp}{s s':Shared}
theorem Inv.env0 (I:Inv X pins σ H s):Env0 X.prog X.w X.K X.mg X.base X.A X.stack s H :=
 ⟨I.ok.frames,I.ok.mod,I.bs,Nat.le_trans I.ok.bsz I.sz,I.stack,I.stkFree,I.hok,I.bare⟩
theorem Inv.after {Q:VK}{u:Value}(I:Inv X pins σ H s)(h:CE X.stack X.prog X.w H s Q u s'):EP X pins σ Q u s':=by
 obtain ⟨v,H',os,bare,un,hok,r,q⟩:=h;obtain ⟨hh,g,d,t,YF⟩:=s';obtain rfl:YF=s.os:=os;exact ⟨v,H',I.call (h':=hh) (g':=g) (d':=d) (t':=t) (ch:=[]) un hok bare (λb z=>absurd z (by simp)),r,q⟩
end
noncomputable def CD (sp:Sp)(dvs:List V)(E:XK)(t:TA):TE:=λσ H Q=>t σ H λvs H1=>sp (vs++dvs) H1 Q E
noncomputable def Av (C:Addr)(m:Str)(sp:Sp)(dvs:List V)(E:XK)(ta:TE)(t:TA):TE:=λσ H Q=>ta σ H λx H1=>∃ a dx fs,x = .ref a/\H1 a=some (.ins C dx fs)/\fs.lookup m=none /\
 t σ H1 λvs H2=>sp (x :: (vs++dvs)) H2 Q E
noncomputable def CB (C:Addr)(sp:Sp)(dvs:List V)(E:XK)(t:TA):TE:=λσ H Q=>t σ H λvs H1=>∀ x dx,H1 x=none->H1 dx=none->dx≠x →
 sp (.ref x :: (vs++dvs)) (upd (upd H1 dx (.own x)) x (.ins C dx [])) (λv H2=>v = .non/\Q (.ref x) H2) E
noncomputable def aA (K:PySem.W.Frag)(fd:FuncData)(ps:List Str)(ds:List Value):Prop :=
 ∀ (s:Shared)(us:List Value),K.In s.heap->(us++ds).length=ps.length->BindsTo s fd ⟨us,[]⟩ (ps.zip (us++ds))
theorem aA.all {K:PySem.W.Frag}{fd:FuncData}{ps:List Str}(h:∀ us:List Value,us.length=ps.length->bindArgs fd ⟨us,[]⟩=pure (ps.zip us)):aA K fd ps []:=λs us _ hl=>by
 rw [List.append_nil] at hl |-;exact .of_eq (h us hl)
noncomputable def dR (CX:CXT)(X:Cx)(E:XK):Prop:=∀ (pins:List (Addr × Obj))(σ:St)(H:Hp)(s:Shared)(e:Value)(s':Shared),Inv X pins σ H s->CX X.stack H s E e s'->X.xe e s'
section
variable {X:Cx}{CX:CXT}{k:Nat}{f C:Addr}{fd:FuncData}{ps:List Str}{sp:Sp}{dvs:List V}{ds:List Value}{E:XK}{x m:Str}{p pos apos:Pos}{e o:Expr}{es:List Expr}{ta:TE}{t:TA}
theorem mB {pins:List (Addr × Obj)}{σ:St}{H:Hp}{s:Shared}{Q:VK}{us:List Value}{vs:List V}(F:FnOk X.prog X.w X.K X.mg X.base CX k f fd ps sp)(hr:Room k X.A)(hb:aA X.K fd ps ds)(hd:aK dvs ds)(hx:dR CX X E)
 (I:Inv X pins σ H s)(r:aK vs us)(h:sp (vs++dvs) H Q E):wpAny (model X.prog X.w) X.A (call (.ref f) us) (EP X pins σ Q) X.xe s:=by
 have r2:aK (vs++dvs) (us++ds):=r.append hd
 have hl:(us++ds).length=ps.length:=by rw [<-r2.length]; exact F.len _ _ _ _ h
 refine wpAny_call (codeAny_mono (F.run X.A X.stack s H ⟨us,[]⟩ (us++ds) (vs++dvs) Q E hr I.env0 (hb s us I.kIn hl) r2 h) λr s' hq=>?_)
 cases r with
 | error e=>exact hx pins σ H s e s' I hq
 | ok fl =>
   cases fl with
   | ret u=>exact I.after hq
   | next=>exact False.elim hq
   | brk=>exact False.elim hq
   | cont=>exact False.elim hq
theorem ax (F:FnOk X.prog X.w X.K X.mg X.base CX k f fd ps sp)(hr:Room k X.A)(hg:Gl X x)(hm:X.mg x=some (.ref f))(hk:PySem.W.keepIn X.K (.ref f)=true)(hb:aA X.K fd ps ds)(hd:aK dvs ds)(hx:dR CX X E)
 (ha:PA X (e :: es) t)(Jl:(x == ("__debug__":Str))=false:=by decide)(he:starEach (e :: es) X.env=(false,eval e X.env):: starEach es X.env:=by rfl)(Gz:(backTo pos (starEach es X.env)).any (·.1)=false:=by rfl):
 PE X (.Call (.Name x p) (e :: es) [] pos) (CD sp dvs E t):=by
 intro pins s σ H Q I h;refine wpAny_Call_Name_kw (fj I hg hm ?_ Jl);refine PySem.W.callWith_K (h₀:=X.base) I.ok.mod.kin hk (bR (ha pos pins s σ H _ I h) λus s1 ⟨vs,H1,I1,r,q⟩=>⟨I1.kIn,?_⟩) he Gz;exact mB F hr hb hd hx I1 r q
theorem aX {pl:Sem Bool}(he:PE X o ta)(c:Cls X.K C)(hm:Meth X.K C m f)(F:FnOk X.prog X.w X.K X.mg X.base CX k f fd ps sp)(hr:Room k X.A)(hb:aA X.K fd ps ds)(hd:aK dvs ds)(hx:dR CX X E)(ha:PA X (e :: es) t)
 (HJ:starEach (e :: es) X.env=(false,eval e X.env):: starEach es X.env:=by rfl)(Gz:(backTo pos (starEach es X.env)).any (·.1)=false:=by rfl)
 (ht:eval (.Call (.Attribute o m apos) (e :: es) [] pos) X.env=(do
  let ov <-eval o X.env
  standAt apos.atName
  let (f,first) <-holding [ov] (getMethod ov m pl)
  callWith pos f first (backTo pos (starEach (e :: es) X.env)) (backToKw pos (keywordEach [] X.env))):=by rfl):
 PE X (.Call (.Attribute o m apos) (e :: es) [] pos) (Av C m sp dvs E ta t):=by
 intro pins s σ H Q I h;refine PySem.W.methodCall_KW (pl:=pl) (bR (he pins s σ H _ I h) λu s1 ⟨x,H1,I1,rx,a,dx,fs,ex,ea,l,q⟩=>?_) ht;subst ex;obtain rfl:u=Value.ref a:=rx;refine j3 I1 ea c hm l ?_;refine PySem.W.callWith_K (first:=[.ref a]) (h₀:=X.base) I.ok.mod.kin hm.kp (bR (ha pos pins s1 σ H1 _ I1 q) λus s2 ⟨vs,H2,I2,r,q2⟩=>⟨I2.kIn,?_⟩) HJ Gz;exact mB (us:=.ref a :: us) (vs:=.ref a :: vs) F hr hb hd hx I2 (.cons rfl r) q2
theorem gR {pl:Sem Bool}(he:PE X o ta)(c:Cls X.K C)(hm:Meth X.K C m f)(F:FnOk X.prog X.w X.K X.mg X.base CX k f fd ps sp)(hr:Room k X.A)(hb:aA X.K fd ps ds)(hd:aK dvs ds)(hx:dR CX X E)
 (ht:eval (.Call (.Attribute o m apos) [] [] pos) X.env=(do
  let ov <-eval o X.env
  standAt apos.atName
  let (f,first) <-holding [ov] (getMethod ov m pl)
  callWith pos f first (backTo pos (starEach [] X.env)) (backToKw pos (keywordEach [] X.env))):=by rfl):
 PE X (.Call (.Attribute o m apos) [] [] pos) (Av C m sp dvs E ta tNil):=by
 intro pins s σ H Q I h;refine PySem.W.methodCall_KW (pl:=pl) (bR (he pins s σ H _ I h) λu s1 ⟨x,H1,I1,rx,a,dx,fs,ex,ea,l,q⟩=>?_) ht;subst ex;obtain rfl:u=Value.ref a:=rx;refine j3 I1 ea c hm l ?_;exact PySem.W.callWith_K0 (first:=[.ref a]) I1.kIn hm.kp (mB (us:=[.ref a]) (vs:=[.ref a]) F hr hb hd hx I1 (.cons rfl .nil) q)
structure Mk (K:PySem.W.Frag)(C f:Addr):Prop where
 makes:PySem.W.makesIn K C=true
 init:PySem.W.findIn K (.ref C) "__init__"=some (some (.ref f))
 fn:PySem.W.isFn K (.ref f)=true
 kp:PySem.W.keepIn K (.ref C)=true
theorem xr {pins:List (Addr × Obj)}{σ:St}{H:Hp}{s:Shared}{Q:VK}{us:List Value}{vs:List V}(M:Mk X.K C f)(F:FnOk X.prog X.w X.K X.mg X.base CX k f fd ps sp)(hr:Room (k + 1) X.A)(hb:aA X.K fd ps ds)(hd:aK dvs ds)
 (hx:dR CX X E)(I:Inv X pins σ H s)(r:aK vs us)
 (h:∀ x dx,H x=none->H dx=none->dx≠x->sp (.ref x :: (vs++dvs)) (upd (upd H dx (.own x)) x (.ins C dx [])) (λv H2=>v = .non/\Q (.ref x) H2) E):
 wpAny (model X.prog X.w) X.A (call (.ref C) us) (EP X pins σ Q) X.xe s:=by
 have hq:=h (s.heap.objs.size + 1) s.heap.objs.size (I.hok.fresh (Nat.le_succ _)) (I.hok.fresh (Nat.le_refl _)) (Nat.ne_of_lt (Nat.lt_succ_self _));have I2:=Inv.made (C:=C) I;have r2:aK (V.ref (s.heap.objs.size + 1):: (vs++dvs)) (Value.ref (s.heap.objs.size + 1):: (us++ds)):=.cons rfl (r.append hd)
 have hl:(Value.ref (s.heap.objs.size + 1):: us++ds).length=ps.length:=by
  have e:=r2.length;rw [F.len _ _ _ _ hq] at e;exact e.symm
 refine wpAny_call (xB (f:=f) I.kIn M.makes M.init (beq_iff_eq.mp M.fn) (codeAny_mono (F.run _ X.stack _ _ ⟨Value.ref (s.heap.objs.size + 1):: us,[]⟩ (Value.ref (s.heap.objs.size + 1):: (us++ds)) _ _ E (hr.make C us [])
  (I2.env0.make C us []) (hb _ (Value.ref (s.heap.objs.size + 1):: us) I2.kIn hl) r2 hq) λr s' M4=>?_))
 cases r with
 | error e=>exact hx pins σ _ _ e s' I2 M4
 | ok fl =>
   cases fl with
   | ret u =>
     obtain ⟨v,H',I3,rv,ev,q3⟩:=I2.after M4;subst ev;exact ⟨rv,⟨V.ref (s.heap.objs.size + 1),H',I3,rfl,q3⟩⟩
   | next=>exact False.elim M4
   | brk=>exact False.elim M4
   | cont=>exact False.elim M4
theorem cT (M:Mk X.K C f)(F:FnOk X.prog X.w X.K X.mg X.base CX k f fd ps sp)(hr:Room (k + 1) X.A)(hg:Gl X x)(hm:X.mg x=some (.ref C))(hb:aA X.K fd ps ds)(hd:aK dvs ds)(hx:dR CX X E)
 (ha:PA X (e :: es) t)(Jl:(x == ("__debug__":Str))=false:=by decide)(he:starEach (e :: es) X.env=(false,eval e X.env):: starEach es X.env:=by rfl)(Gz:(backTo pos (starEach es X.env)).any (·.1)=false:=by rfl):
 PE X (.Call (.Name x p) (e :: es) [] pos) (CB C sp dvs E t):=by
 intro pins s σ H Q I h;refine wpAny_Call_Name_kw (fj I hg hm ?_ Jl);refine PySem.W.callWith_K (h₀:=X.base) I.ok.mod.kin M.kp (bR (ha pos pins s σ H _ I h) λus s1 ⟨vs,H1,I1,r,q⟩=>⟨I1.kIn,?_⟩) he Gz;exact xr M F hr hb hd hx I1 r q
end
structure FnScope (N P:List Str)(sc:Scope):Prop where
 kind:sc.kind = .function
 co:sc.isCoroutine=false
 gen:sc.isGenerator=false
 nd:N.Nodup
 pre:N.take P.length=P
 par:∀ x∈P,sc.names.lookup x=some .local\/sc.names.lookup x=some .cell
 nofree:∀ y∈sc.names,y.2 ≠ .free
theorem dX {N P:List Str}{sc:Scope}(h:sc.kind = .function/\sc.isCoroutine=false/\sc.isGenerator=false/\N.Nodup/\N.take P.length=P/\(∀ x∈P,sc.names.lookup x=some .local\/sc.names.lookup x=some .cell)/\∀ y∈sc.names,y.2 ≠ .free):FnScope N P sc:=⟨h.1,h.2.1,h.2.2.1,h.2.2.2.1,h.2.2.2.2.1,h.2.2.2.2.2.1,h.2.2.2.2.2.2⟩
theorem lR {kindOf:Str->Option NameKind}{x:Str}:∀ {binds:List (Str × Value)}{m:Str->Option Value},(∀ v,(x,v) ∉ binds)->bindL kindOf binds m x=m x
 | [],_,_=>rfl
 | (n,v):: r,m,h=>by
   unfold bindL;rw [lR λw hw=>h w (List.mem_cons_of_mem _ hw)]
   split
   ·have:x≠n:=by rintro rfl; exact h v List.mem_cons_self
    simp [this]
   ·rfl
theorem lP {kindOf:Str->Option NameKind}{x:Str}:∀ {binds:List (Str × Value)}{m:Str->Option Value},(∀ v,(x,v) ∉ binds)->bindC kindOf binds m x=m x
 | [],_,_=>rfl
 | (n,v):: r,m,h=>by
   unfold bindC;rw [lP λw hw=>h w (List.mem_cons_of_mem _ hw)]
   split
   ·rfl
   ·have:x≠n:=by rintro rfl; exact h v List.mem_cons_self
    simp [this]
theorem lM {kindOf:Str->Option NameKind}{x:Str}{v:Value}:∀ {P:List Str}{vs:List Value}{i:Nat}{m:Str->Option Value},P.Nodup->P[i]?=some x->vs[i]?=some v->kindOf x=some .local →
 bindL kindOf (P.zip vs) m x=some v
 | [],_,_,_,_,h,_,_=>by simp at h
 | _ :: _,[],_,_,_,_,h,_=>by simp at h
 | p :: P,w :: vs,0,m,nd,h1,h2,hk=>by
   simp at h1 h2; subst h1; subst h2;show bindL kindOf ((p,w):: P.zip vs) m p=_;unfold bindL;rw [lR λv hv=>(List.nodup_cons.mp nd).1 (List.of_mem_zip hv).1,if_pos hk];simp
 | p :: P,w :: vs,i + 1,m,nd,h1,h2,hk=>by
   show bindL kindOf ((p,w):: P.zip vs) m x=_;unfold bindL;exact lM (i:=i) (List.nodup_cons.mp nd).2 (by simpa using h1) (by simpa using h2) hk
theorem lF {kindOf:Str->Option NameKind}{x:Str}{v:Value}:∀ {P:List Str}{vs:List Value}{i:Nat}{m:Str->Option Value},P.Nodup->P[i]?=some x->vs[i]?=some v->kindOf x≠some .local →
 bindC kindOf (P.zip vs) m x=some v
 | [],_,_,_,_,h,_,_=>by simp at h
 | _ :: _,[],_,_,_,_,h,_=>by simp at h
 | p :: P,w :: vs,0,m,nd,h1,h2,hk=>by
   simp at h1 h2; subst h1; subst h2;show bindC kindOf ((p,w):: P.zip vs) m p=_;unfold bindC;rw [lP λv hv=>(List.nodup_cons.mp nd).1 (List.of_mem_zip hv).1,if_neg hk];simp
 | p :: P,w :: vs,i + 1,m,nd,h1,h2,hk=>by
   show bindC kindOf ((p,w):: P.zip vs) m x=_;unfold bindC;exact lF (i:=i) (List.nodup_cons.mp nd).2 (by simpa using h1) (by simpa using h2) hk
noncomputable def fF (N:List Str)(vs:List V):St:=vs.map some++List.replicate (N.length - vs.length) none
noncomputable def fB (CX:CXT)(P:Program)(w:World)(K:PySem.W.Frag)(mg:Str->Option Value)(base:Heap)(N:List Str)(qual:Str)(scope:Scope)(f:Addr)(cd:Value)(A:Around)(outer:List Env)(s:Shared)(H:Hp)(E:XK):Cx where
 prog:=P
 w:=w
 K:=K
 mg:=mg
 base:=base
 A:=A.deeper (envOfC qual scope s.heap.objs.size f cd)
 N:=N
 s₀:=s
 H₀:=H
 env:=envOfC qual scope s.heap.objs.size f cd
 outer:=outer
 stack:=envOfC qual scope s.heap.objs.size f cd :: outer
 ex:=[]
 calm:=true
 fn:=λ_=>true
 pn:=[]
 xe:=λe s'=>wpAny (model P w) (A.deeper (envOfC qual scope s.heap.objs.size f cd)) (leaving (envOfC qual scope s.heap.objs.size f cd) e) (λ_ HQ=>CX outer H s E e HQ) (λe' HQ=>CX outer H s E e' HQ) s'
theorem n4 {sc:Scope}{n:Nat}{x:Str}(h:sc.names.lookup x=some .cell):∃ c,(cellsFrom n sc.names []).lookup x=some c:=by
 have q:=PySem.W.cellsFrom_some sc.names n [] (.inl h);exact Option.isSome_iff_exists.mp q
theorem vn {CX:CXT}{P:Program}{w:World}{K:PySem.W.Frag}{mg:Str->Option Value}{base:Heap}{N ps:List Str}{qual:Str}{scope:Scope}{f:Addr}{cd:Value}{A:Around}{outer:List Env}{s s1:Shared}{H:Hp}{E:XK}{us:List Value}{vs:List V}
 (S:FnScope N ps scope)(hd:A.handled=none)(e0:Env0 P w K mg base A outer s H)(hl:vs.length=ps.length)(r:aK vs us)
 (x:InCallC s s.heap.objs.size (bindL (envOfC qual scope s.heap.objs.size f cd).kindOf (ps.zip us) λ_=>none) (cellsFrom (s.heap.objs.size + 1) scope.names []) (bindC (envOfC qual scope s.heap.objs.size f cd).kindOf (ps.zip us) λ_=>none) s1):
 Inv (fB CX P w K mg base N qual scope f cd A outer s H E) [] (fF N vs) H s1:=by
 have Gz:ps.length<=N.length:=by have:=congrArg List.length S.pre; rw [List.length_take] at this; omega
 obtain ⟨h1,tk,rfl,hk⟩:=x.done;have M5:∀ b:Addr,b ∉ (fB CX P w K mg base N qual scope f cd A outer s H E).ex:=λb z=>absurd (show b∈([]:List Addr) from z) (by simp)
 refine ⟨⟨e0.mod,S.kind,rfl,rfl,Nat.le_refl _,λy z c h1 h2=>?_,λy hy=>?_,λy c _ h=>?_,λ_=>hd,Around.frames_deeper e0.frames,.inr ⟨rfl,rfl⟩,λb z=>absurd z (M5 b),e0.bs,e0.bsz,λb _ _=>M5 b,λb z=>absurd z (M5 b),e0.funs,e0.frf⟩,
  rfl,e0.bare,Un.kept hk,⟨_,x.toInCall.ns,λi y v h1 h2 h3=>?_⟩,λy c h=>⟨_,x.cell y c h⟩,e0.hok.fresh (Nat.le_refl _),λy c h=>?_,λp hp=>absurd (show p∈([]:List (Addr × Obj)) from hp) (by simp),e0.hok.kept hk,?_⟩
 ·exact name_of_addr x.apart (PySem.mem_of_lookup h1) (PySem.mem_of_lookup h2)
 ·have hy:scope.names.lookup y=some .cell\/scope.names.lookup y=some .free:=hy
  rcases hy with hy | hy
  ·exact n4 hy
  ·exact absurd rfl (S.nofree _ (PySem.mem_of_lookup hy))
 ·exact Nat.le_of_lt (x.above y c (PySem.mem_of_lookup h))
 ·have hi:i < vs.length:=by
   unfold fF at h2
   by_cases hi:i < vs.length
   ·exact hi
   ·rw [List.getElem?_append_right (by simpa using hi)] at h2;rw [List.getElem?_replicate] at h2
    split at h2 <;> cases h2
  have ha:vs[i]?=some v:=by
   unfold fF at h2;rw [List.getElem?_append_left (by simpa using hi),List.getElem?_map] at h2
   cases e:vs[i]? with
   | none=>rw [e] at h2; cases h2
   | some a=>rw [e] at h2; cases h2; rfl
  obtain ⟨u,hu,rv⟩:=r.get ha
  have hp:ps[i]?=some y:=by
   rw [<-S.pre,List.getElem?_take_of_lt (by omega)]; exact h1
  have Wo:ps.Nodup:=by rw [<-S.pre]; exact S.nd.sublist (List.take_sublist _ _)
  refine ⟨u,rv,?_⟩
  rcases S.par y (List.mem_of_getElem? hp) with k | k
  ·exact .inl ⟨k,lM Wo hp hu k⟩
  ·obtain ⟨c,e⟩:=n4 (n:=s.heap.objs.size + 1) k;refine .inr ⟨.inl k,c,e,?_⟩;have q:=x.cell y c e;rw [lF Wo hp hu (by show scope.names.lookup y≠_; rw [k]; decide)] at q;exact q
 ·exact e0.hok.fresh (Nat.le_of_lt (x.above y c (PySem.mem_of_lookup h)))
 ·unfold fF;show _=N.length;rw [List.length_append,List.length_map,List.length_replicate];omega
theorem tH {CX:CXT}{P:Program}{w:World}{K:PySem.W.Frag}{mg:Str->Option Value}{base:Heap}{k:Nat}{f:Addr}{name qual:Str}{params:Arguments}{body:List Stmt}{scope:Scope}{dV kV doc pm Fb ct oc:Value}{an od:Option Addr}
 {Fo:Array (Option Value)}{N ps:List Str}{sp:Sp}(lk:K.lookup f=some ⟨oc,od,.func (PySem.W.fnOf name qual params body scope dV kV doc pm an Fb ct),Fo⟩)(F7:PySem.W.codeIn K Fb qual=true)(S:FnScope N ps scope)
 (len:∀ vs H Q E,sp vs H Q E->vs.length=ps.length)
 (Fp:∀ (A:Around)(outer:List Env)(s:Shared)(H:Hp)(vs:List V)(Q:VK)(E:XK),Room k (A.deeper (envOfC qual scope s.heap.objs.size f Fb))->sp vs H Q E →
  ∃ t,iX (fB CX P w K mg base N qual scope f Fb A outer s H E) body t/\t { nx:=λ_ H'=>Q .non H',rt:=Q } (fF N vs) H):
 FnOk P w K mg base CX (k + 1) f (PySem.W.fnOf name qual params body scope dV kV doc pm an Fb ct) ps sp:=by
 refine ⟨len,λA outer s H args us vs Q E hr e0 hb r Hh=>?_⟩;have hl:=len _ _ _ _ Hh;have KX:K.In s.heap:=e0.mod.kin.keeps λb o e=>(e0.bs b o e).1;have lim:s.heap.NoLimit:=e0.mod.nolimit.keeps λb o e=>(e0.bs b o e).1
 have GA:∀ y∈ps.zip us,scope.names.lookup y.1=some .local\/(scope.names.lookup y.1=some .cell/\((cellsFrom (s.heap.objs.size + 1) scope.names []).lookup y.1).isSome=true):=λ⟨n,v⟩ hy=>by
  rcases S.par n (List.of_mem_zip hy).1 with q | q
  ·exact .inl q
  ·exact .inr ⟨q,PySem.W.cellsFrom_some _ _ _ (.inl q)⟩
 refine codeAny_call_function hr.depth (KX _ _ lk) rfl S.co S.gen rfl (PySem.W.codeRec_of KX F7) (hb _ _ _ _ ?_);refine wpAny_newFunctionEnv_cells S.kind GA λenv he s1 x=>?_;subst he;refine ⟨lim.keeps x.toInCall.keep,codeAny_func ?_⟩;obtain ⟨t,ht,hq⟩:=Fp A outer s H vs Q E (hr.deeper _) Hh;have I:Inv (fB CX P w K mg base N qual scope f Fb A outer s H E) [] (fF N vs) H s1:=vn S hr.hd e0 hl r x;refine wpAny_mono (ht [] s1 (fF N vs) H _ I hq) (λfl s' hs=>?_) λe s' hs=>hs
 have fin:∀ {σ':St}{H':Hp}{v:V}{u:Value},Inv (fB CX P w K mg base N qual scope f Fb A outer s H E) [] σ' H' s'->aC v u->Q v H'->CE outer P w H s Q u s' :=
  λ{σ' H' v u} J rv q=>⟨v,H',J.os,J.bare,J.base,J.hok,rv,q⟩
 cases fl with
 | ret u =>
   obtain ⟨v,σ',H',J,rv,q⟩:=hs;exact fin J rv q
 | next =>
   obtain ⟨σ',H',J,q⟩:=hs;exact fin (v:=V.non) (u:=Value.none) J rfl q
 | brk =>
   obtain ⟨_,_,_,q⟩:=hs;exact False.elim q
 | cont =>
   obtain ⟨_,_,_,q⟩:=hs;exact False.elim q
section
variable {X:Cx}{x:Str}{p pos:Pos}{e:Expr}{es:List Expr}{t:TA}{id T:String}{r:List V->Hp->VK->Prop}
noncomputable def EL (r:List V->Hp->VK->Prop)(t:TA):TE:=λσ H Q=>t σ H λvs H1=>r vs H1 Q
theorem aF (hc:eT X (.builtin id) r)(hg:Gl X x)(hm:X.mg x=none)(hv:bootBuiltins x=some (.builtin id))(ha:PA X (e :: es) t)(hn:x ≠ "__name__":=by decide)(Jl:(x == ("__debug__":Str))=false:=by decide)
 (he:starEach (e :: es) X.env=(false,eval e X.env):: starEach es X.env:=by rfl)(Gz:(backTo pos (starEach es X.env)).any (·.1)=false:=by rfl):PE X (.Call (.Name x p) (e :: es) [] pos) (EL r t):=by
 intro pins s σ H Q I h;refine wpAny_Call_Name_kw (fh I hg hm hv ?_ hn Jl);exact PyProof.Rows.callWith_builtin1 (bR (ha pos pins s σ H _ I h) λus s1 ⟨vs,H1,I1,r1,q1⟩=>hc pins s1 σ H1 vs us Q I1 r1 q1) he Gz
theorem c9 (hc:eT X (.type T) r)(hg:Gl X x)(hm:X.mg x=none)(hv:bootBuiltins x=some (.type T))(ha:PA X (e :: es) t)(hn:x ≠ "__name__":=by decide)(Jl:(x == ("__debug__":Str))=false:=by decide)
 (he:starEach (e :: es) X.env=(false,eval e X.env):: starEach es X.env:=by rfl)(Gz:(backTo pos (starEach es X.env)).any (·.1)=false:=by rfl):PE X (.Call (.Name x p) (e :: es) [] pos) (EL r t):=by
 intro pins s σ H Q I h;refine wpAny_Call_Name_kw (fh I hg hm hv ?_ hn Jl);exact PyProof.Rows.callWith_type1 (bR (ha pos pins s σ H _ I h) λus s1 ⟨vs,H1,I1,r1,q1⟩=>hc pins s1 σ H1 vs us Q I1 r1 q1) he Gz
end
section
variable {κ:Type} [DecidableEq κ]
noncomputable def ij (E9:List (κ × V))(k:κ):Option V:=(E9.find? λkv=>decide (kv.1=k)).map (·.2)
noncomputable def eW (E9:List (κ × V))(k:κ)(v:V):List (κ × V):=
 if (E9.any λkv=>decide (kv.1=k))=true then E9.map (λkv=>if kv.1=k then (kv.1,v) else kv) else E9++[(k,v)]
theorem hU {p:κ × V}{r:List (κ × V)}{k:κ}(e:p.1=k):ij (p :: r) k=some p.2:=by simp [ij,List.find?_cons,e]
theorem fH {p:κ × V}{r:List (κ × V)}{k:κ}(e:¬ p.1=k):ij (p :: r) k=ij r k:=by simp [ij,List.find?_cons,e]
theorem jE (k:κ):∀ E9:List (κ × V),(E9.any λkv=>decide (kv.1=k))=(ij E9 k).isSome
 | []=>rfl
 | p :: r=>by
   rw [List.any_cons]
   by_cases e:p.1=k
   ·simp only [hU e,decide_eq_true e,Bool.true_or,Option.isSome_some]
   ·rw [fH e,decide_eq_false e,Bool.false_or]; exact jE k r
theorem iY (E9:List (κ × V))(k:κ)(v:V):(eW E9 k v).length<=E9.length + 1:=by
 unfold eW
 split
 ·rw [List.length_map]; omega
 ·rw [List.length_append,List.length_cons,List.length_nil]; omega
theorem fE.isSome_eq {o:Option V}{u:Option Value}(r:fE o u):o.isSome=u.isSome:=by
 cases o with
 | none=>cases u with
   | none=>rfl
   | some _=>exact (show False from r).elim
 | some _=>cases u with
   | none=>exact (show False from r).elim
   | some _=>rfl
theorem fE.getD {o:Option V}{u:Option Value}{d:V}{d':Value}(r:fE o u)(rd:aC d d'):aC (o.getD d) (u.getD d'):=by
 cases o with
 | none=>cases u with
   | none=>exact rd
   | some _=>exact (show False from r).elim
 | some _=>cases u with
   | none=>exact (show False from r).elim
   | some _=>exact r
theorem KV.val {E9:List (κ × V)}{vs:List (κ × Value)}(r:KV E9 vs)(k:κ):fE (ij E9 k) (valueAt vs k):=by
 unfold KV at r
 induction r with
 | nil=>exact True.intro
 | @cons p q ps qs h t ih =>
   obtain ⟨h1,h2⟩:=h
   by_cases e:p.1=k
   ·have e':q.1=k:=h1.symm.trans e
    have b:valueAt (q :: qs) k=some q.2:=by simp [valueAt,List.find?_cons,e']
    rw [hU e,b]; exact h2
   ·have e':¬ q.1=k:=λz=>e (h1.trans z)
    have b:valueAt (q :: qs) k=valueAt qs k:=by simp [valueAt,List.find?_cons,e']
    rw [fH e,b]; exact ih
theorem KV.any {E9:List (κ × V)}{vs:List (κ × Value)}(r:KV E9 vs)(k:κ):(E9.any λkv=>decide (kv.1=k))=vs.any λkv=>decide (kv.1=k):=by
 unfold KV at r
 induction r with
 | nil=>rfl
 | cons h t ih=>rw [List.any_cons,List.any_cons,ih,h.1]
theorem KV.repl {E9:List (κ × V)}{vs:List (κ × Value)}(r:KV E9 vs)(k:κ){y:V}{u:Value}(ry:aC y u):
 KV (E9.map λkv=>if kv.1=k then (kv.1,y) else kv) (vs.map λkv=>if kv.1=k then (kv.1,u) else kv):=by
 unfold KV at r |-
 induction r with
 | nil=>exact .nil
 | @cons p q ps qs h t ih =>
   rw [List.map_cons,List.map_cons];refine .cons ?_ ih;obtain ⟨h1,h2⟩:=h
   by_cases e:p.1=k
   ·rw [if_pos e,if_pos (h1.symm.trans e)]; exact ⟨h1,ry⟩
   ·rw [if_neg e,if_neg (λz=>e (h1.trans z))]; exact ⟨h1,h2⟩
theorem KV.put {E9:List (κ × V)}{vs:List (κ × Value)}(r:KV E9 vs)(k:κ){y:V}{u:Value}(ry:aC y u):KV (eW E9 k y) (stored vs k u):=by
 unfold eW stored;rw [r.any k]
 by_cases e:(vs.any λkv=>decide (kv.1=k))=true
 ·rw [if_pos e,if_pos e]; exact r.repl k ry
 ·rw [if_neg e,if_neg e]; exact Paired.snoc r ⟨rfl,ry⟩
theorem KV.length {E9:List (κ × V)}{vs:List (κ × Value)}(r:KV E9 vs):E9.length=vs.length:=Paired.length r
end
theorem oO {P:Program}{w:World}{k:Key}{u:Value}(r:aC (kV k) u):(bQ P w).is k u=true:=by
 cases k with
 | inl i=>obtain ⟨t,e⟩:=(show ∃ t,u=Value.int i t from r); subst e; exact pY P w i t
 | inr x=>obtain ⟨t,e⟩:=(show ∃ t,u=Value.str x t from r); subst e; exact oE P w x t
theorem l8 {P:Program}{w:World}:∀ {ks:List Key}{us:List Value},aK (ks.map kV) us->ItemsAre (bQ P w) ks us
 | [],_,r=>by rw [List.map_nil] at r; cases r; exact .nil
 | k :: ks,_,r=>by
   rw [List.map_cons] at r
   cases r with
   | cons h t=>exact .cons (oO h) (l8 t)
noncomputable abbrev KT (H:Hp):List (List Key × V)->List (List Key × Addr × Value)->Prop:=Paired λp q=>p.1=q.1/\H q.2.1=some (.tup (p.1.map kV))/\aC p.2 q.2.2
theorem KT.val {H:Hp}{E9:List (List Key × V)}{xs:List (List Key × Addr × Value)}(r:KT H E9 xs)(k:List Key):fE (ij E9 k) ((atKey xs k).map (·.2)):=by
 induction r with
 | nil=>exact True.intro
 | @cons p q ps qs h t ih =>
   obtain ⟨h1,_,h2⟩:=h
   by_cases e:p.1=k
   ·have e':q.1=k:=h1.symm.trans e
    have b:atKey (q :: qs) k=some q.2:=by simp [atKey,List.find?_cons,e']
    rw [hU e,b]; exact h2
   ·have e':¬ q.1=k:=λz=>e (h1.trans z)
    have b:atKey (q :: qs) k=atKey qs k:=by simp [atKey,List.find?_cons,e']
    rw [fH e,b]; exact ih
theorem KT.repl {H:Hp}{E9:List (List Key × V)}{xs:List (List Key × Addr × Value)}(r:KT H E9 xs)(k:List Key){y:V}{u:Value}(ry:aC y u):
 KT H (E9.map λkv=>if kv.1=k then (kv.1,y) else kv) (xs.map (putAt k u)):=by
 induction r with
 | nil=>exact .nil
 | @cons p q ps qs h t ih =>
   rw [List.map_cons,List.map_cons];refine .cons ?_ ih;obtain ⟨h1,h2,h3⟩:=h;unfold putAt
   by_cases e:p.1=k
   ·rw [if_pos e,if_pos (h1.symm.trans e)]; exact ⟨h1,h2,ry⟩
   ·rw [if_neg e,if_neg (λz=>e (h1.trans z))]; exact ⟨h1,h2,h3⟩
theorem KT.put {H:Hp}{E9:List (List Key × V)}{xs:List (List Key × Addr × Value)}(r:KT H E9 xs)(k:List Key){b:Addr}{y:V}{u:Value}(hb:H b=some (.tup (k.map kV)))(ry:aC y u):
 KT H (eW E9 k y) (storedH xs k b u):=by
 have e:(E9.any λkv=>decide (kv.1=k))=(atKey xs k).isSome:=by
  rw [jE,(r.val k).isSome_eq,Option.isSome_map]
 unfold eW storedH;rw [e]
 by_cases q:(atKey xs k).isSome=true
 ·rw [if_pos q,if_pos q]; exact r.repl k ry
 ·rw [if_neg q,if_neg q]; exact Paired.snoc r ⟨rfl,hb,ry⟩
theorem KT.keeps {H H':Hp}{E9:List (List Key × V)}{xs:List (List Key × Addr × Value)}(r:KT H E9 xs)(ht:∀ b ys,H b=some (.tup ys)->H' b=some (.tup ys)):KT H' E9 xs :=
 Paired.mapP r λ_ _ z=>⟨z.1,ht _ _ z.2.1,z.2.2⟩
section
variable {P:Program}{w:World}{H:Hp}{h:Heap}{a:Addr}
theorem AN {u:HO}(ok:eG P w H h)(e:Rd H a u):ba P w H h a u:=e.ok ok
theorem lD {E9:List (Key × V)}(ok:eG P w H h)(e:Rd H a (.dK E9)):E9.length<=sizeLine/\(a == sysModules)=false/\∃ vs,KV E9 vs/\h.DictOf (bQ P w) a vs :=
 show ba P w H h a (.dK E9) from AN ok e
theorem DC {E9:List (Key × V)}(ok:eG P w H h)(e:H a=some (.dK E9)):E9.length<=sizeLine/\(a == sysModules)=false/\∃ vs,KV E9 vs/\h.DictOf (bQ P w) a vs:=lD ok (.inl e)
theorem ki {ks:List Key}(ok:eG P w H h)(e:H a=some (.tup (ks.map kV))):(tupleKind (bQ P w)).is h ks a:=by
 obtain ⟨_,its,r,o,h1,h2,n,h3⟩:=(show ba P w H h a (.tup (ks.map kV)) from ok a _ e);exact ⟨o,its.toArray,n,h1,h2,h3,by simpa using l8 r⟩
theorem mi {E9:List (List Key × V)}(ok:eG P w H h)(e:Rd H a (.dT E9)):E9.length<=sizeLine/\(a == sysModules)=false /\
 ∃ xs,KT H E9 xs/\h.DictOfH (tupleKind (bQ P w)) a xs:=by
 obtain ⟨z,y,xs,r,o,es,ep,h1,h2,h3,h4,h5⟩:=(show ba P w H h a (.dT E9) from AN ok e);refine ⟨z,y,xs,r,o,es,ep,h1,h2,h3,h4,λx hx=>?_,h5⟩
 have all:∀ {l:List (List Key × V)}{m:List (List Key × Addr × Value)},KT H l m->∀ x∈m,(tupleKind (bQ P w)).is h x.1 x.2.1:=by
  intro l m q
  induction q with
  | nil=>intro x hx; exact nomatch hx
  | @cons p q ps qs hq t ih =>
    intro x hx
    rcases List.mem_cons.mp hx with e | hx
    ·subst e;exact ki ok (by rw [<-hq.1]; exact hq.2.1)
    ·exact ih x hx
 exact all r x hx
theorem Cv {E9:List (List Key × V)}(ok:eG P w H h)(e:H a=some (.dT E9)):E9.length<=sizeLine/\(a == sysModules)=false /\
 ∃ xs,KT H E9 xs/\h.DictOfH (tupleKind (bQ P w)) a xs:=mi ok (.inl e)
end
noncomputable def iN (H:Hp)(a:Addr)(y:V)(r:Option V):Prop :=
 (∃ E9 k,Rd H a (.dK E9)/\y=kV k/\r=ij E9 k)\/∃ E9 k b,Rd H a (.dT E9)/\y = .ref b/\H b=some (.tup (k.map kV))/\r=ij E9 k
noncomputable def oV (H:Hp)(a:Addr)(y v:V)(H':Hp):Prop :=
 (∃ E9 k,H a=some (.dK E9)/\y=kV k/\E9.length < sizeLine/\H'=upd H a (.dK (eW E9 k v))) \/
 ∃ E9 k b,H a=some (.dT E9)/\y = .ref b/\H b=some (.tup (k.map kV))/\E9.length < sizeLine/\H'=upd H a (.dT (eW E9 k v))
theorem iN.t {H:Hp}{a b:Addr}{E9:List (List Key × V)}{k:List Key}(e:H a=some (.dT E9))(eb:H b=some (.tup (k.map kV))):iN H a (.ref b) (ij E9 k):=.inr ⟨E9,k,b,.inl e,rfl,eb,rfl⟩
theorem oV.t {H:Hp}{a b:Addr}{E9:List (List Key × V)}{k:List Key}{v:V}(e:H a=some (.dT E9))(eb:H b=some (.tup (k.map kV)))(hl:E9.length < sizeLine):
 oV H a (.ref b) v (upd H a (.dT (eW E9 k v))):=.inr ⟨E9,k,b,e,rfl,eb,hl,rfl⟩
section
variable {X:Cx}{pins:List (Addr × Obj)}{σ:St}{H:Hp}{s:Shared}{a:Addr}{y v:V}{u r:Value}{o:Option V}{A:Around}{E:Value->Shared->Prop}
theorem Inv.big (I:Inv X pins σ H s):sysModules < s.heap.objs.size:=by
 have h:mainGlobals < s.heap.objs.size:=(I.mod.glob.keeps I.bk).lt;exact Nat.lt_trans (by decide) h
theorem vk {Q:Value->Shared->Prop}(hu:A.units + 1 < cLine)(I:Inv X pins σ H s)(g:iN H a y (some v))(ry:aC y u)(h:∀ w' s',Inv X pins σ H s'->aC v w'->Q w' s'):
 wpAny (model X.prog X.w) A (getItem (.ref a) u) Q E s:=by
 rcases g with ⟨E9,k,e,ey,l⟩ | ⟨E9,k,b,e,ey,eb,l⟩
 ·subst ey;obtain ⟨z,hd,vs,rel,dd⟩:=lD I.hok e;obtain ⟨w',hw,Gm⟩:=fE.some_of (v:=v) (o:=valueAt vs k) (by rw [l]; exact rel.val k);exact wpAny_getItem_of (oO ry) dd.mapOf hw (h w' _ (I.tok _) Gm)
 ·subst ey
  cases (show u=Value.ref b from ry)
  obtain ⟨z,hd,xs,rel,dd⟩:=mi I.hok e;obtain ⟨w',hw,Gm⟩:=fE.some_of (v:=v) (o:=(atKey xs k).map (·.2)) (by rw [l]; exact rel.val k);obtain ⟨p,hp,Rm⟩:=Option.map_eq_some_iff.mp hw;refine wpAny_getItem_heap (tupleKind_room_in1 hu) (ki I.hok eb) dd hp ?_;rw [Rm];exact h w' _ (I.tok _) Gm
theorem EI {Q:Value->Shared->Prop}(hu:A.units + 1 < cLine)(I:Inv X pins σ H s)(g:iN H a y o)(ry:aC y u)(h:∀ s',Inv X pins σ H s'->Q (.bool o.isSome) s'):
 wpAny (model X.prog X.w) A (compareOp .In u (.ref a)) Q E s:=by
 rcases g with ⟨E9,k,e,ey,l⟩ | ⟨E9,k,b,e,ey,eb,l⟩
 ·subst ey;obtain ⟨z,hd,vs,rel,dd⟩:=lD I.hok e;refine wpAny_in_of (oO ry) hd dd.mapOf ?_;rw [<-(rel.val k).isSome_eq,<-l];exact h _ (I.tok _)
 ·subst ey
  cases (show u=Value.ref b from ry)
  obtain ⟨z,hd,xs,rel,dd⟩:=mi I.hok e;refine wpAny_in_heap (tupleKind_room_in1 hu) (ki I.hok eb) hd dd ?_;have q:=(rel.val k).isSome_eq;rw [Option.isSome_map] at q;rw [<-q,<-l];exact h _ (I.tok _)
theorem sf {h':Heap}{t':Nat}{ob:HO}(I:Inv X pins σ H s)(mu:CH (H a))(hs:Heap.SameBut a s.heap h')(he:∃ q,h'.get? a=some q)(new:ba X.prog X.w (upd H a ob) h' a ob):
 Inv X pins σ (upd H a ob) { s with heap:=h',toks:=t' }:=
 I.write (x:=a) (e:=a) mu (.inl rfl) (λb q hb z=>(hs.2 b hb).trans z) he new
theorem B5 {P:Program}{w:World}{H':Hp}{h':Heap}{E9:List (Key × V)}{vs:List (Key × Value)}(z:E9.length<=sizeLine)(hd:(a == sysModules)=false)(rel:KV E9 vs)(dd:h'.DictOf (bQ P w) a vs):
 ba P w H' h' a (.dK E9):=⟨z,hd,vs,rel,dd⟩
theorem va {H':Hp}{Q:Unit->Shared->Prop}(hu:A.units + 1 < cLine)(I:Inv X pins σ H s)(g:oV H a y v H')(ry:aC y u)(rv:aC v r)(h:∀ s',Inv X pins σ H' s'->Q () s'):
 wpAny (model X.prog X.w) A (setItem (.ref a) u r) Q E s:=by
 rcases g with ⟨E9,k,e,ey,l,eH⟩ | ⟨E9,k,b,e,ey,eb,l,eH⟩
 ·subst ey eH;obtain ⟨z,hd,vs,rel,dd⟩:=DC I.hok e
  have hz:vs.length<=sizeLine:=by rw [<-rel.length]; exact z
  have hl:(eW E9 k v).length<=sizeLine:=by have:=iY E9 k v; omega
  refine wpAny_setItem_pairs (hsz:=hz) (oO ry) dd λh' Rn hs=>h _ ?_;have he:∃ q,h'.get? a=some q:=let ⟨q,_,_,hq,_⟩:=Rn; ⟨q,hq⟩;exact sf I (by rw [e]; exact True.intro) hs he (B5 hl hd (rel.put k rv) Rn)
 ·subst ey eH
  cases (show u=Value.ref b from ry)
  obtain ⟨z,hd,xs,rel,dd⟩:=Cv I.hok e
  have hz:xs.length<=sizeLine:=by rw [<-Paired.length rel]; exact z
  have hl:(eW E9 k v).length<=sizeLine:=by have:=iY E9 k v; omega
  refine wpAny_setItem_heap (hsz:=hz) (tupleKind_room_in1 hu) (ki I.hok eb) dd λh' Rn hs=>h _ ?_;obtain ⟨q,es,ep,hq,h2,h3,h4,_,h5⟩:=Rn;refine sf I (by rw [e]; exact True.intro) hs ⟨q,hq⟩ ⟨hl,hd,_,(rel.put k eb rv).keeps λc ys ec=>?_,q,es,ep,hq,h2,h3,h4,h5⟩;rw [ao (oJ ec e (λz=>nomatch z))];exact ec
end
noncomputable def Dq (i:Expr):Prop:=∀ ov iv,subscripted i false ov iv=operate [ov,iv] (getItem ov iv)
theorem yD {prog:Program}{w:World}{A:Around}{E:Value->Shared->Prop}{s:Shared}{env:Env}{value slice:Expr}{pos:Pos}{T id:String}{Q:Value->Shared->Prop}
 (hl:typeLookup (.type T) "__getitem__"=pure (some (.builtin id)))(hs:Dq slice)
 (h:wpAny (model prog w) A (eval value env) (λo s₁=>wpAny (model prog w) A (eval slice env) (λi s₂=>s₂.TypeIs o T/\wpAny (model prog w) A (getItem o i) Q E s₂) E s₁) E s):
 wpAny (model prog w) A (eval (.Subscript value slice pos) env) Q E s:=by
 refine Subscript_ (wpAny_mono h (λo s₁ h₁=>wpAny_mono h₁ (λi s₂ h₂=>?_) λ_ _ x=>x) λ_ _ x=>x);obtain ⟨hT,h₂⟩:=h₂;unfold subscriptTail;refine wpAny_bind ?_;rw [getitemInPython_of_ne hT.not_modules];refine wpAny_bind (wpAny_specialOf hT hl ?_)
 have fin:wpAny (model prog w) A (subscripted slice false o i) (λr s₃=>wpAny (model prog w) A (letTemporaryGo value o r >>= λ_=>pure r) Q E s₃) E s₂:=by
  rw [hs o i];exact wpAny_operating (wpAny_mono h₂ (λr s₃ h₃=>wpAny_bind (wpAny_letTemporaryGo (wpAny_pure h₃))) λ_ _ x=>x)
 first
  | exact wpAny_pure (wpAny_bind fin)
  | exact wpAny_bind (wpAny_pure (wpAny_bind fin))
  | exact wpAny_bind fin
theorem oQ {X:Cx}{pins:List (Addr × Obj)}{σ:St}{H:Hp}{s:Shared}{a:Addr}{y:V}{o:Option V}(I:Inv X pins σ H s)(g:iN H a y o):s.TypeIs (.ref a) "dict":=by
 rcases g with ⟨E9,k,e,_,_⟩ | ⟨E9,k,b,e,_,_,_⟩
 ·obtain ⟨_,_,vs,_,dd⟩:=lD I.hok e;exact dd.typeIs
 ·obtain ⟨_,_,xs,_,dd⟩:=mi I.hok e;exact dd.typeIs
noncomputable def Dx (td ty:TE):TE:=λσ H Q=>td σ H λx H1=>ty σ H1 λy H2=>∃ a v,x = .ref a/\iN H2 a y (some v)/\Q v H2
noncomputable def Ei (ty td:TE):TE:=λσ H Q=>ty σ H λy H1=>td σ H1 λx H2=>∃ a o,x = .ref a/\iN H2 a y o/\Q (.bl o.isSome) H2
noncomputable def C0 (td ty tv:TE):TS:=λD σ H=>tv σ H λv H1=>td σ H1 λx H2=>ty σ H2 λy H3=>∃ a H4,x = .ref a/\oV H3 a y v H4/\D.nx σ H4
section
variable {X:Cx}{o i e value:Expr}{pos pos' Sj:Pos}{td ty tv:TE}
theorem nk (hu:X.A.units + 1 < cLine)(ho:PE X o td)(hi:PE X i ty)(hs:Dq i):PE X (.Subscript o i pos) (Dx td ty):=by
 intro pins s σ H Q I h;refine yD PySem.F.slot_dict_getitem.lookup hs (bR (ho pins s σ H _ I h) λu s1 ⟨x,H1,I1,rx,q1⟩=>bR (hi pins s1 σ H1 _ I1 q1) λiv s2 ⟨y,H2,I2,ry,a,v,ex,g,q2⟩=>?_);subst ex;obtain rfl:u=Value.ref a:=rx;exact ⟨oQ I2 g,vk hu I2 g ry λw' s3 I3 Gm=>⟨v,H2,I3,Gm,q2⟩⟩
theorem B8 (hu:X.A.units + 1 < cLine)(hi:PE X i ty)(ho:PE X o td):PC X .In i o (Ei ty td):=by
 intro pins s σ H Q I h;refine bR (hi pins s σ H _ I h) λiv s1 ⟨y,H1,I1,ry,q1⟩=>bR (ho pins s1 σ H1 _ I1 q1) λu s2 ⟨x,H2,I2,rx,a,ov,ex,g,q2⟩=>?_;subst ex;obtain rfl:u=Value.ref a:=rx;exact EI hu I2 g ry λs3 I3=>⟨.bl ov.isSome,H2,I3,rfl,q2⟩
theorem se (hu:X.A.units + 1 < cLine)(ho:PE X o td)(hi:PE X i ty)(hv:PE X value tv)(hs:swapsWith value (some (.Subscript o i pos')) pos.line X.env=pure false):
 PS X (.Assign [.Subscript o i pos'] value pos) (C0 td ty tv):=by
 intro pins s σ H D I h;refine wpAny_Assign_Subscript (bR (hv pins s σ H _ I h) λr s1 ⟨v,H1,I1,rv,q1⟩=>bR (ho pins s1 σ H1 _ I1 q1) λu s2 ⟨x,H2,I2,rx,q2⟩=>bR (hi pins s2 σ H2 _ I2 q2) λiv s3 ⟨y,H3,I3,ry,a,H4,ex,g,q3⟩=>?_) hs;subst ex;obtain rfl:u=Value.ref a:=rx;exact va hu I3 g ry rv λs4 I4=>⟨σ,H4,I4,q3⟩
end
theorem xJ {P:Program}{w:World}{H:Hp}(h:Heap)(hb:sysModules < h.objs.size):ba P w H (h.push { cls:=.type "dict",data:=.dict #[] }) h.objs.size (.dT []):=
 ⟨Nat.zero_le _,beq_eq_false_iff_ne.mpr (Ne.symm (Nat.ne_of_lt hb)),[],.nil,_,#[],0,Heap.get?_push_size _ rfl,⟨rfl,rfl,rfl⟩,rfl,rfl,List.nodup_nil⟩
noncomputable def tDNewT:TE:=λ_ H Q=>∀ p,H p=none->Q (.ref p) (upd H p (.dT []))
section
variable {X:Cx}{pos:Pos}
theorem pZ:PE X (.Dict [] [] pos) tDNewT:=λpins s σ H Q I h =>
 wpAny_Dict_empty ⟨.ref s.heap.objs.size,_,I.laid (a:=s.heap.objs.size) (o:=.dT []) (t':=s.toks) (λ_ _ q=>Heap.get?_push_of_some _ q) (Nat.le_refl _) (xJ s.heap I.big),rfl,h _ (I.hok.fresh (Nat.le_refl _))⟩
end
structure M2 (X:Cx)(o:Expr)(m:Str)(apos:Pos)(e f:Expr)(Fj:Pos):Prop where
 base:attributeBase o m X.env (eval o X.env)=eval o X.env
 few:((backTo Fj (starEach [e,f] X.env)).all (λx=>!x.1)&&(backToKw Fj (keywordEach [] X.env)).all (λx=>x.1.isSome)
  && decide (([e,f]:List Expr).length + ([]:List Keyword).length + (if ([]:List Keyword).isEmpty then 0 else 1) < 30))=true
 line:(apos.endLine == Fj.line)=true
 trees:backTo Fj (starEach [e,f] X.env)=[(false,eval e X.env),(false,eval f X.env)]
noncomputable def EU (H:Hp)(a:Addr):Prop:=(∃ E9,Rd H a (.dK E9))\/∃ E9,Rd H a (.dT E9)
theorem Bx {X:Cx}{pins:List (Addr × Obj)}{σ:St}{H:Hp}{s:Shared}{a:Addr}(I:Inv X pins σ H s)(d:EU H a):
 s.TypeIs (.ref a) "dict"/\(∀ b,Value.ref a = .ref b->∃ ob,s.heap.get? b=some ob/\ob.dict=none)/\(a == sysModules)=false:=by
 rcases d with ⟨E9,e⟩ | ⟨E9,e⟩
 ·obtain ⟨_,hd,vs,_,dd⟩:=lD I.hok e;refine ⟨dd.typeIs,λb q=>?_,hd⟩
  cases q
  obtain ⟨ob,_,_,h1,h2,_⟩:=dd;exact ⟨ob,h1,h2.2.1⟩
 ·obtain ⟨_,hd,xs,_,dd⟩:=mi I.hok e;refine ⟨dd.typeIs,λb q=>?_,hd⟩
  cases q
  obtain ⟨ob,_,_,h1,h2,_⟩:=dd;exact ⟨ob,h1,h2.2.1⟩
section
variable {X:Cx}{pins:List (Addr × Obj)}{σ:St}{H:Hp}{s:Shared}{a:Addr}{y d:V}{u r:Value}{o:Option V}{A:Around}{E:Value->Shared->Prop}
theorem Cp {Q:Value->Shared->Prop}(hu:A.units + 1 < cLine)(I:Inv X pins σ H s)(g:iN H a y o)(ry:aC y u)(rd:aC d r)(h:∀ w' s',Inv X pins σ H s'->aC (o.getD d) w'->Q w' s'):
 wpAny (model X.prog X.w) A (call (.builtin "dict.get") [.ref a,u,r]) Q E s:=by
 rcases g with ⟨E9,k,e,ey,l⟩ | ⟨E9,k,b,e,ey,eb,l⟩
 ·subst ey;obtain ⟨z,hd,vs,rel,dd⟩:=lD I.hok e;refine call_meetsIn PySem.F.slot_dict_get dd.typeIs PySem.F.entry_dict_get (PySem.F.args_dict_get_3 _ _ _) (meets_dict_get_default (bQ X.prog X.w) a (oO ry) hd r) ⟨_,dd.mapOf,h _ _ (I.tok _) ?_⟩;rw [l];exact (rel.val k).getD rd
 ·subst ey
  cases (show u=Value.ref b from ry)
  obtain ⟨z,hd,xs,rel,dd⟩:=mi I.hok e;refine call_meetsIn PySem.F.slot_dict_get dd.typeIs PySem.F.entry_dict_get (PySem.F.args_dict_get_3 _ _ _) (meetsH_dict_get_default (tupleKind (bQ X.prog X.w)) a b hd r) ⟨tupleKind_room_in1 hu,k,xs,ki I.hok eb,dd,h _ _ (I.tok _) ?_⟩;rw [l];exact (rel.val k).getD rd
end
noncomputable def BF (td ty tx:TE):TE:=λσ H Q=>td σ H λx H1=>∃ a,x = .ref a/\EU H1 a/\ty σ H1 λy H2=>tx σ H2 λz H3=>∃ o,iN H3 a y o/\Q (o.getD z) H3
section
variable {X:Cx}{o e f:Expr}{apos Fj:Pos}{td ty tx:TE}
theorem wI (hu:X.A.units + 1 < cLine)(ho:PE X o td)(he:PE X e ty)(hf:PE X f tx)(m:M2 X o "get" apos e f Fj):PE X (.Call (.Attribute o "get" apos) [e,f] [] Fj) (BF td ty tx):=by
 intro pins s σ H Q I h;refine wpAny_Call_method m.base m.few m.line PySem.F.plainAttrs_dict PySem.F.slot_dict_get PySem.F.type_dict_get (bR (ho pins s σ H _ I h) λu s1 ⟨x,H1,I1,rx,a,ex,d,q1⟩=>?_);subst ex;obtain rfl:u=Value.ref a:=rx;obtain ⟨t1,t2,_⟩:=Bx I1 d;refine ⟨t1,t2,?_⟩;rw [m.trees]
 refine Calls.callWith_builtin rfl (Calls.evalArgs_plain (Calls.spliced_cons (bR (he pins s1 σ H1 _ I1 q1) λiv s2 ⟨y,H2,I2,ry,q2⟩ =>
  Calls.spliced_cons (bR (hf pins s2 σ H2 _ I2 q2) λfv s3 ⟨z,H3,I3,rz,ov,g,q3⟩=>Calls.spliced_nil ?_))))
 exact Cp hu I3 g ry rz λw' s4 I4 Gm=>⟨_,H3,I4,Gm,q3⟩
end
end L2
namespace HT
open PySem PyProof.Rows
noncomputable def cR:List Int->List Int->Bool
 | [],[]=>false
 | [],_ :: _=>true
 | _ :: _,[]=>false
 | x :: xs,y :: ys=>if x=y then cR xs ys else decide (x < y)
theorem dJ (x y:Int)(xs ys:List Int):cR (x :: xs) (y :: ys)=if x=y then cR xs ys else decide (x < y):=rfl
theorem kY:cR [] []=false:=rfl
theorem jR (y:Int)(ys:List Int):cR [] (y :: ys)=true:=rfl
theorem jS (x:Int)(xs:List Int):cR (x :: xs) []=false:=rfl
theorem yn (A:Around)(s:Shared)(a:Int)(t:Tok)(c:Int)(u:Tok):∃ e,SeqAt.EqAt A s (.int a t) (.int c u) e/\(e=true ↔ a=c):=
 ⟨(a == c),SeqAt.EqAt.int_int a t c u,by simp⟩
theorem w6 (A:Around)(s:Shared)(a:Int)(t:Tok)(c:Int)(u:Tok)(prog:Program)(w:World)(E:Value->Shared->Prop)(Q:Value->Shared->Prop)(h:Q (.bool (decide (a < c))) s):
 wpAny (model prog w) A (richCompare .Lt (.int a t) (.int c u)) Q E s :=
 (PyProof.Rows.lt_int h:wpAny (model prog w) A (compareOp .Lt (.int a t) (.int c u)) Q E s)
section
open PySem.SeqAt
open PySem.AutoSeq1 (wpAny_loadPart')
open PySem.MeetsSeq PySem.MeetsSeq2 PySem.MeetsSeq3
theorem kX (l b:Addr)(items Fl:Array Value)(n n2:Nat)(dd JI:Option Addr)(sl HR:Array (Option Value))(ns ms:List Int)(hi:IntsAre items.toList ns)(hj:IntsAre Fl.toList ms):
 Meets (Builtin.«tuple.__lt__» ⟨[.ref l,.ref b],[]⟩)
  (λ_ R s=>s.heap.get? l=some { cls:=.type "tuple",dict:=dd,data:=.seq items n,slots:=sl }/\s.heap.get? b=some { cls:=.type "tuple",dict:=JI,data:=.seq Fl n2,slots:=HR } /\
   R (.ok (.ret (.bool (cR ns ms)))) s):=
 .of_wp λprog w A R s h=>by
  obtain ⟨hp,g,d,tk,os⟩:=s; obtain ⟨hl,hb,h⟩:=h;have f2:=AutoSeq1.sub_tuple_tuple
  have z1:items.size=ns.length:=by rw [<-hi.length]; simp
  have z2:Fl.size=ms.length:=by rw [<-hj.length]; simp
  wp_walk using wpAny_loadPart' hl,wpAny_loadPart' hb,wpAny_forIn_list _ (λrest b s'=>b.1=none/\s'=⟨hp,g,d,tk,os⟩/\∃ (vs ws:List Value)(JJ Mz:List Int),rest=vs.zip ws /\
   IntsAre vs JJ/\IntsAre ws Mz/\JJ.length + Fl.size=Mz.length + items.size/\R (.ok (.ret (.bool (cR JJ Mz)))) ⟨hp,g,d,tk,os⟩) _
  case turn =>
   rintro ⟨y,x⟩ rest b s' ⟨Fq,rfl,vs,ws,JJ,Mz,hz,Sk,Ro,hlen,hR⟩
   cases Sk with
   | nil=>rw [List.zip_nil_left] at hz; cases hz
   | cons a t Sl =>
     cases Ro with
     | nil=>rw [List.zip_nil_right] at hz; cases hz
     | cons c u Sm =>
       rw [List.zip_cons_cons] at hz
       injection hz with YG M6
       injection YG with hy hx
       subst hy hx;rw [dJ] at hR;simp only [List.length_cons] at hlen;obtain ⟨e,he,M7⟩:=yn A.in1 ⟨hp,g,d,tk,os⟩ a t c u;refine wpAny_bind (he prog w _ _ ?_)
       cases e with
       | true =>
         rw [if_pos (M7.mp rfl)] at hR
         wp_walk
         exact ⟨rfl,rfl,_,_,_,_,M6,Sl,Sm,by omega,hR⟩
       | false =>
         rw [if_neg (λq=>absurd (M7.mpr q) Bool.false_ne_true)] at hR;have YH:=w6 A.in1 ⟨hp,g,d,tk,os⟩ a t c u prog w
         wp_walk using YH
         exact ⟨_,rfl,by simpa using hR⟩
  case fin =>
   rintro ⟨b1,b2⟩ s' ⟨Fq,rfl,vs,ws,JJ,Mz,hz,Sk,Ro,hlen,hR⟩;simp only at Fq;subst Fq
   have hv:cR JJ Mz=decide (items.size < Fl.size):=by
    cases Sk with
    | nil =>
      cases Ro with
      | nil =>
        simp only [List.length_nil] at hlen;rw [kY];exact (decide_eq_false (by omega)).symm
      | cons c u hw =>
        simp only [List.length_nil,List.length_cons] at hlen;rw [jR];exact (decide_eq_true (by omega)).symm
    | cons a t hv =>
      cases Ro with
      | nil =>
        simp only [List.length_nil,List.length_cons] at hlen;rw [jS];exact (decide_eq_false (by omega)).symm
      | cons c u hw =>
        rw [List.zip_cons_cons] at hz
        cases hz
   rw [hv] at hR
   wp_walk
   exact ⟨_,rfl,by simpa [Builtin.Tuple.tupleCompareSizes] using hR⟩
  case h =>
   exact ⟨rfl,rfl,items.toList,Fl.toList,ns,ms,rfl,hi,hj,by omega,h⟩
end
section
variable {prog:Program}{w:World}{A:Around}{E:Value->Shared->Prop}{s:Shared}
theorem qj {l b:Addr}{items Fl:Array Value}{ns ms:List Int}{Q:Value->Shared->Prop}(hl:IsTup s.heap l items)(hb:IsTup s.heap b Fl)(hi:IntsAre items.toList ns)(hj:IntsAre Fl.toList ms)
 (hu:A.units < cLine)(h:Q (.bool (cR ns ms)) s):wpAny (model prog w) A (compareOp .Lt (.ref l) (.ref b)) Q E s:=by
 obtain ⟨⟨cls,dd,data,sl⟩,ho,hc,n,hd⟩:=id hl;obtain ⟨⟨M8,JI,data2,HR⟩,Hv,Hi,n2,hd2⟩:=id hb;simp only at hc hd Hi hd2;subst hc hd Hi hd2
 exact richCompare_meets_room (op:=.Lt) ⟨_,ho,rfl⟩ ⟨_,Hv,rfl⟩ PySem.F.slot_tuple_lt PySem.F.entry_tuple_lt (PySem.F.args_tuple_lt_2 _ _) (kX l b items Fl n n2 dd JI sl HR ns ms hi hj)
  ⟨ho,Hv,show Value.bool (cR ns ms)≠Value.notImplemented/\Q (.bool (cR ns ms)) s from ⟨(λx=>nomatch x),h⟩⟩ hu
theorem zF {t b:Addr}{vs ws:List Value}{Q:Value->Shared->Prop}(ht:IsTup s.heap t vs.toArray)(hb:IsTup s.heap b ws.toArray)(hv:vs≠[])
 (h1:ws=[]->Q (.ref t) s)(h2:ws≠[]->Q (.ref s.heap.objs.size) { s with heap:=s.heap.push { cls:=.type "tuple",data:=.seq (vs++ws).toArray } })
 (hsz:vs.length + ws.length<=sizeLine):wpAny (model prog w) A (binaryOp .Add (.ref t) (.ref b)) Q E s:=by
 obtain ⟨⟨cls,dd,data,sl⟩,ho,hc,n,hd⟩:=id ht;obtain ⟨⟨M8,JI,data2,HR⟩,Hv,Hi,n2,hd2⟩:=id hb;simp only at hc hd Hi hd2;subst hc hd Hi hd2
 have e:vs.toArray++ws.toArray=(vs++ws).toArray:=by simp
 by_cases hw:ws=[]
 ·exact concat_meets ⟨_,ho,rfl⟩ ⟨_,Hv,rfl⟩ noFill_tuple_add seq_tuple_add PySem.F.slot_tuple_add PySem.F.entry_tuple_add (PySem.F.args_tuple_add_2 _ _)
   (tuple_addW1 t b vs.toArray ws.toArray n n2 dd JI sl HR (by simpa using hv) (by simp [hw])) ⟨ho,Hv,h1 hw⟩
 ·refine concat_meets ⟨_,ho,rfl⟩ ⟨_,Hv,rfl⟩ noFill_tuple_add seq_tuple_add PySem.F.slot_tuple_add PySem.F.entry_tuple_add (PySem.F.args_tuple_add_2 _ _)
   (tuple_addW2 t b vs.toArray ws.toArray n n2 dd JI sl HR (by simpa using hv) (by simpa using hw) (by rw [List.size_toArray,List.size_toArray]; exact hsz)) ⟨ho,Hv,?_⟩
  rw [e];exact h2 hw
noncomputable def dY (n d:Nat):Option Int->Nat
 | none=>d
 | some v=>if v < 0 then (v + (n:Int)).toNat else min v.toNat n
theorem AO (n d:Nat)(hd:d<=n)(o:Option Int):dY n d o<=n:=by
 cases o with
 | none=>exact hd
 | some v =>
   show (if v < 0 then (v + (n:Int)).toNat else min v.toNat n)<=n
   by_cases hv:v < 0
   ·rw [if_pos hv]; omega
   ·rw [if_neg hv]; exact Nat.min_le_right _ _
theorem rQ (v:Int)(n d:Nat):(if v < 0 then max (v + (n:Int)) 0 else min v (n:Int))=((dY n d (some v):Nat):Int):=by
 show (if v < 0 then max (v + (n:Int)) 0 else min v (n:Int))=(((if v < 0 then (v + (n:Int)).toNat else min v.toNat n):Nat):Int)
 by_cases hv:v < 0
 ·simp only [if_pos hv]; omega
 ·simp only [if_neg hv]; omega
theorem qE (lo hi:Option Int)(n:Nat):Builtin.Slice.sliceAdjust lo hi 1 (n:Int)=(((dY n 0 lo:Nat):Int),((dY n n hi:Nat):Int)):=by
 have h1:¬ ((1:Int) < 0):=by omega
 unfold Builtin.Slice.sliceAdjust;simp only [h1,if_false];refine Prod.ext ?_ ?_
 ·cases lo with
  | none=>rfl
  | some v=>exact rQ v n 0
 ·cases hi with
  | none=>rfl
  | some v=>exact rQ v n n
theorem qL (i j:Nat):Builtin.Slice.slicePlaces (i:Int) (j:Int) 1=j - i:=by
 unfold Builtin.Slice.slicePlaces
 have h1:(1:Int) > 0:=by omega
 simp only [h1,if_true,Int.ediv_one]
 split <;> omega
theorem jo {v:Value}{o:Option Int}{Q:Option Int->Shared->Prop}(p:IsPart v o)(h:Q o s):wpAny (model prog w) A (Builtin.Slice.slicePartIndex v) Q E s:=by
 cases p with
 | none=>exact slicePart_none h
 | int i t=>exact slicePart_int h
theorem eQ {sl:Addr}{vl vu:Value}{lo hi:Option Int}{n:Nat}{Q:Int × Int × Nat->Shared->Prop}(hs:s.heap.IsSliceOf sl vl vu .none)(pl:IsPart vl lo)(pu:IsPart vu hi)
 (h:Q (((dY n 0 lo:Nat):Int),1,dY n n hi - dY n 0 lo) s):wpAny (model prog w) A (Builtin.Slice.sliceApplied (.ref sl) (pure (n:Int))) Q E s:=by
 obtain ⟨os,Ll,HK,M9⟩:=id hs;unfold Builtin.Slice.sliceApplied Builtin.Slice.sliceFields;refine wpAny_bind (wpAny_bind (wpAny_field Ll M9 (x:=vl) rfl (wpAny_bind (wpAny_field Ll M9 (x:=vu) rfl (wpAny_bind (wpAny_field Ll M9 (x:=.none) rfl (wpAny_pure ?_)))))));refine wpAny_bind (slicePart_none ?_);show wpAny _ _ (if ((1:Int) == 0)=true then _ else _) _ _ s;rw [if_neg (by decide)];refine wpAny_bind (jo pl (wpAny_bind (jo pu (wpAny_bind (wpAny_pure ?_)))));show wpAny _ _ (match Builtin.Slice.sliceAdjust lo hi 1 (n:Int) with | (lo,hi)=>pure (lo,(1:Int),Builtin.Slice.slicePlaces lo hi 1)) _ _ s;rw [qE lo hi n];show wpAny _ _ (pure (((dY n 0 lo:Nat):Int),(1:Int),Builtin.Slice.slicePlaces ((dY n 0 lo:Nat):Int) ((dY n n hi:Nat):Int) 1)) _ _ s;rw [qL];exact wpAny_pure h
theorem xZ (xs:Array Value)(i k:Nat):((List.range k).filterMap λ(m:Nat)=>xs[((i:Int) + (m:Int) * 1).toNat]?).toArray=((xs.toList.drop i).take k).toArray:=by
 have e:(λ(m:Nat)=>xs[((i:Int) + (m:Int) * 1).toNat]?)=λm=>xs[i + m]?:=by
  funext m
  have:((i:Int) + (m:Int) * 1).toNat=i + m:=by omega
  rw [this]
 rw [e];have:=pick_run xs i k;rw [List.filterMap_map] at this;have e2:((λx=>xs[x]?) ∘ λx=>i + x)=λm=>xs[i + m]?:=rfl;rw [e2] at this;rw [this]
theorem gO {t sl:Addr}{items:Array Value}{vl vu:Value}{lo hi:Option Int}{Q:Value->Shared->Prop}(ht:IsTup s.heap t items)(hs:s.heap.IsSliceOf sl vl vu .none)(pl:IsPart vl lo)(pu:IsPart vu hi)
 (hw:¬ (dY items.size 0 lo=0/\dY items.size items.size hi=items.size))
 (h:Q (.ref s.heap.objs.size) { s with heap:=s.heap.push { cls:=.type "tuple",data:=.seq ((items.toList.drop (dY items.size 0 lo)).take (dY items.size items.size hi - dY items.size 0 lo)).toArray } })
 (hsz:items.size<=sizeLine):wpAny (model prog w) A (getItem (.ref t) (.ref sl)) Q E s:=by
 have Hj:sizeOk (.seq ((items.toList.drop (dY items.size 0 lo)).take (dY items.size items.size hi - dY items.size 0 lo)).toArray):=by
  show ((items.toList.drop (dY items.size 0 lo)).take (dY items.size items.size hi - dY items.size 0 lo)).toArray.size<=sizeLine;rw [List.size_toArray,List.length_take,List.length_drop,Array.length_toList];omega
 have hj:dY items.size items.size hi<=items.size:=AO _ _ (Nat.le_refl _) hi;obtain ⟨os,Ll,HK,M9⟩:=id hs;have Sn:s.TypeIs (.ref sl) "slice":=⟨os,Ll,HK⟩;unfold getItem
 try with_reducible refine wpAny_holding ?_
 first | refine wpAny_bind (wpAny_pure ?_) | skip
 refine wpAny_bind (wpAny_sequenceKey ht.typeIs (by decide) ?_)
 refine wpAny_bind (wpAny_callSpecial?_slot (name:=Str.ofString "__getitem__") ht.typeIs PyProof.Rows.slot_tuple_getitem
  (wpAny_call_entry PyProof.Rows.slot_tuple_getitem ht.typeIs entry_tuple_getitem ?_ (args_tuple_getitem _ _)))
 show wpAny _ _ (Builtin.Tuple.tupleItemsOf (.ref t) >>= _) _ _ s;refine wpAny_bind (tupleItemsOf_ ht ?_);refine wpAny_bind (wpAny_typeOf Sn ?_);rw [if_pos (by decide)];refine wpAny_bind (eQ hs pl pu ?_)
 have Jm:¬ ((((dY items.size 0 lo:Nat):Int) == 0&&(1:Int) == 1&&(dY items.size items.size hi - dY items.size 0 lo) == items.size)=true):=by
  intro q;rw [Bool.and_eq_true,Bool.and_eq_true] at q;have q1:((dY items.size 0 lo:Nat):Int)=0:=eq_of_beq q.1.1;have q2:dY items.size items.size hi - dY items.size 0 lo=items.size:=eq_of_beq q.2;exact hw ⟨by omega,by omega⟩
 show wpAny _ _ (if (((dY items.size 0 lo:Nat):Int) == 0&&(1:Int) == 1&&(dY items.size items.size hi - dY items.size 0 lo) == items.size)=true then _ else _) _ _ s;rw [if_neg Jm,xZ]
 first
  | exact wpAny_bind (m:=Builtin.Tuple.tupleExact _) (wpAny_newObj_type (wpAny_pure ⟨_,rfl,wpAny_pure h⟩) Hj)
  | exact wpAny_bind (m:=Builtin.Tuple.tupleExact _) (wpAny_newObj_type (wpAny_bind (wpAny_pure (wpAny_pure ⟨_,rfl,wpAny_pure h⟩))) Hj)
  | exact wpAny_bind (wpAny_bind (m:=Builtin.Tuple.tupleExact _) (wpAny_newObj_type (wpAny_pure (wpAny_pure ⟨_,rfl,wpAny_pure h⟩)) Hj))
  | exact wpAny_bind (wpAny_bind (m:=Builtin.Tuple.tupleExact _) (wpAny_newObj_type (wpAny_pure ⟨_,rfl,wpAny_pure h⟩) Hj))
end
end HT
namespace L2
open PySem PySem.Spec PyProof.Rows
noncomputable abbrev TO:=St->Hp->(Option Int->Hp->Prop)->Prop
noncomputable def PO (X:Cx)(e:Option Expr)(t:TO):Prop :=
 ∀ (pins:List (Addr × Obj))(s:Shared)(σ:St)(H:Hp)(Q:Option Int->Hp->Prop),Inv X pins σ H s->t σ H Q →
   wpAny (model X.prog X.w) X.A (evalPart e X.env) (λu s'=>∃ o H',Inv X pins σ H' s'/\IsPart u o/\Q o H') X.xe s
noncomputable def tNoPart:TO:=λ_ H Q=>Q none H
noncomputable def C1 (t:TE):TO:=λσ H Q=>t σ H λx H1=>∃ i,x = .int i/\Q (some i) H1
theorem jy {ns:List Int}:∀ {us:List Value},aK (ns.map V.int) us->IntsAre us ns:=by
 induction ns with
 | nil=>intro us r; rw [List.map_nil] at r; cases r; exact .nil
 | cons n ns ih =>
   intro us r;rw [List.map_cons] at r
   cases r with
   | cons r1 r2 =>
     obtain ⟨t,e⟩:=r1;subst e;exact .cons n t (ih r2)
section
variable {X:Cx}{e:Expr}{te:TE}{lo hi:Option Expr}{tl th:TO}{pos p2:Pos}
theorem yT:PO X none tNoPart:=by
 intro pins s σ H Q I h;rw [evalPart_none];exact wpAny_pure ⟨none,H,I,.none,h⟩
theorem yG (h:PE X e te):PO X (some e) (C1 te):=by
 intro pins s σ H Q I hw;rw [evalPart_some];refine bR (h pins s σ H _ I hw) λu s1 ⟨x,H1,I1,r1,q1⟩=>?_;obtain ⟨i,rfl,q⟩:=q1;obtain ⟨t,rfl⟩:=r1;exact ⟨some i,H1,I1,.int i t,q⟩
noncomputable def Ej (X:Cx)(r:V->Option Int->Option Int->Hp->VK->Prop):Prop :=
 ∀ (pins:List (Addr × Obj))(s:Shared)(σ:St)(H:Hp)(x:V)(v vl vu:Value)(lo hi:Option Int)(sl:Addr)(Q:VK),Inv X pins σ H s->aC x v->s.heap.IsSliceOf sl vl vu .none->IsPart vl lo->IsPart vu hi->r x lo hi H Q →
   ∃ T id,typeLookup (.type T) "__getitem__"=pure (some (.builtin id))/\s.TypeIs v T/\wpAny (model X.prog X.w) X.A (getItem v (.ref sl)) (EP X pins σ Q) X.xe s
noncomputable def EY (r:V->Option Int->Option Int->Hp->VK->Prop)(te:TE)(tl th:TO):TE:=λσ H Q=>te σ H λx H1=>tl σ H1 λl H2=>th σ H2 λu H3=>r x l u H3 Q
theorem yx {r:V->Option Int->Option Int->Hp->VK->Prop}(hr:Ej X r)(he:PE X e te)(hl:PO X lo tl)(hu:PO X hi th):PE X (.Subscript e (.Slice lo hi none p2) pos) (EY r te tl th):=by
 intro pins s σ H Q I h;refine Subscript_ (bR (he pins s σ H _ I h) λv s1 ⟨x,H1,I1,r1,q1⟩=>?_);refine wpAny_Slice (bR (hl pins s1 σ H1 _ I1 q1) λvl s2 ⟨l,H2,I2,pl,q2⟩=>bR (hu pins s2 σ H2 _ I2 q2) λvu s3 ⟨u,H3,I3,pu,q3⟩=>?_);rw [evalPart_none];refine wpAny_pure ?_;have I4:Inv X pins σ H3 { s3 with heap:=s3.heap.push { cls:=.type "slice",data:=.fields #[vl,vu,.none] } }:=I3.kept (t':=s3.toks) λb ob q=>Heap.get?_push_of_some _ q;obtain ⟨T,id,hT,ht,hg⟩:=hr pins { s3 with heap:=s3.heap.push { cls:=.type "slice",data:=.fields #[vl,vu,.none] } } σ H3 x v vl vu l u s3.heap.objs.size Q I4 r1 (Heap.IsSliceOf.new ..) pl pu q3;show wpAny (model X.prog X.w) X.A (subscriptTail e (.Slice lo hi none p2) v (.ref s3.heap.objs.size)) (EP X pins σ Q) X.xe { s3 with heap:=s3.heap.push { cls:=.type "slice",data:=.fields #[vl,vu,.none] } };exact tail_any (ops:=[.ref s3.heap.objs.size,v]) ht hT hg (by with_unfolding_all rfl)
noncomputable def nU (xs:List V)(lo hi:Option Int):List V:=(xs.drop (HT.dY xs.length 0 lo)).take (HT.dY xs.length xs.length hi - HT.dY xs.length 0 lo)
theorem pV (xs:List V)(lo hi:Option Int):(nU xs lo hi).length<=xs.length:=by
 unfold nU;rw [List.length_take,List.length_drop];omega
noncomputable def Es (K:PySem.W.Frag):V->Option Int->Option Int->Hp->VK->Prop:=λx lo hi H Q=>∃ a xs,x = .ref a/\a9 K H a xs /\
 ¬ (HT.dY xs.length 0 lo=0/\HT.dY xs.length xs.length hi=xs.length)/\∀ p,H p=none->Q (.ref p) (upd H p (.tup (nU xs lo hi)))
theorem Cn:Ej X (Es X.K):=by
 intro pins s σ H x v vl vu lo hi sl Q I rx hs pl pu h;obtain ⟨a,xs,rfl,hx,hw,q⟩:=h
 cases rx
 obtain ⟨its,r,ht,hz⟩:=I.tuple hx
 have hlen:its.toArray.size=xs.length:=by rw [List.size_toArray]; exact r.length.symm
 refine ⟨"tuple",_,PyProof.Rows.slot_tuple_getitem.lookup,ht.typeIs,?_⟩;refine HT.gO ht hs pl pu (by rw [hlen]; exact hw) ?_ (by rw [hlen]; exact hz);rw [hlen];refine ⟨.ref s.heap.objs.size,_,I.laid (t':=s.toks) (o:=.tup (nU xs lo hi)) (λb ob q=>Heap.get?_push_of_some _ q) (Nat.le_refl _) ?_,rfl,q _ (I.hok.fresh (Nat.le_refl _))⟩;exact ⟨Nat.le_trans (pV xs lo hi) hz,_,(r.drop (HT.dY xs.length 0 lo)).take (HT.dY xs.length xs.length hi - HT.dY xs.length 0 lo),IsTup.new _ _⟩
noncomputable def Dg (K:PySem.W.Frag):R2:=λx y H Q=>∃ a b xs ys,x = .ref a/\y = .ref b/\a9 K H a xs/\a9 K H b ys/\xs≠[]/\xs.length + ys.length<=sizeLine /\
 (ys=[]->Q (.ref a) H)/\(ys≠[]->∀ p,H p=none->Q (.ref p) (upd H p (.tup (xs++ys))))
theorem aK.nil_iff {xs:List V}{us:List Value}(r:aK xs us):us=[] ↔ xs=[]:=by
 cases r with
 | nil=>simp
 | cons _ _=>simp
theorem r8:f9 X (binaryOp .Add) (Dg X.K):=by
 intro pins s σ H x y v u Q I rx ry h;obtain ⟨a,b,xs,ys,rfl,rfl,ha,hb,hx,hz,q1,q2⟩:=h
 cases rx
 cases ry
 obtain ⟨its,r1,p1,_⟩:=I.tuple ha;obtain ⟨Fe,r2,p2,_⟩:=I.tuple hb;refine HT.zF p1 p2 (λz=>hx (r1.nil_iff.mp z)) (λz=>⟨.ref a,H,I,rfl,q1 (r2.nil_iff.mp z)⟩) (λz=>?_) (by rw [<-r1.length,<-r2.length]; exact hz);refine ⟨.ref s.heap.objs.size,_,I.laid (t':=s.toks) (o:=.tup (xs++ys)) (λb ob q=>Heap.get?_push_of_some _ q) (Nat.le_refl _) ?_,rfl,q2 (λw=>z (r2.nil_iff.mpr w)) _ (I.hok.fresh (Nat.le_refl _))⟩;exact ⟨by rw [List.length_append]; exact hz,_,r1.append r2,IsTup.new _ _⟩
end
noncomputable def yI (n:Nat)(i:Int):Option Nat:=if 0<=i then (if i < n then some i.toNat else none) else if -(n:Int)<=i then some (i + n).toNat else none
noncomputable def qO {α:Type}(xs:List α)(i:Int):Option α:=(yI xs.length i).bind λj=>xs[j]?
theorem rR {n:Nat}{i:Int}{j:Nat}(h:yI n i=some j):seqIndex? i n=some j/\j < n/\-(n:Int)<=i/\i < n:=by
 unfold yI at h
 by_cases h0:0<=i
 ·rw [if_pos h0] at h
  by_cases h1:i < n
  ·rw [if_pos h1] at h;have e:i.toNat=j:=Option.some.inj h;exact ⟨by rw [seqIndex_of h0 h1,e],by omega,by omega,h1⟩
  ·rw [if_neg h1] at h; cases h
 ·rw [if_neg h0] at h
  by_cases h1:-(n:Int)<=i
  ·rw [if_pos h1] at h;have e:(i + n).toNat=j:=Option.some.inj h;exact ⟨by rw [seqIndex_neg (by omega) h1,e],by omega,h1,by omega⟩
  ·rw [if_neg h1] at h; cases h
theorem tQ {α:Type}{xs:List α}{i:Int}{v:α}(h:qO xs i=some v):∃ j,seqIndex? i xs.length=some j/\xs[j]?=some v/\j < xs.length/\-(xs.length:Int)<=i/\i < xs.length:=by
 unfold qO at h
 cases e:yI xs.length i with
 | none=>rw [e] at h; cases h
 | some j =>
   rw [e] at h;obtain ⟨h1,h2,h3,h4⟩:=rR e;exact ⟨j,h1,h,h2,h3,h4⟩
theorem tG {α:Type}{xs:List α}{j:Nat}{v:α}(h:xs[j]?=some v):qO xs (j:Int)=some v:=by
 have hj:j < xs.length:=(List.getElem?_eq_some_iff.mp h).1
 have e:yI xs.length (j:Int)=some j:=by
  unfold yI;rw [if_pos (by omega),if_pos (by omega)]; simp
 unfold qO; rw [e]; exact h
noncomputable def yM (b:Expr):Prop:=∀ o i,subscripted b false o i=operate [o,i] (getItem o i)
noncomputable def DO (X:Cx)(r:R2):Prop :=
 ∀ (value slice:Expr)(pins:List (Addr × Obj))(s:Shared)(σ:St)(H:Hp)(x y:V)(v u:Value)(Q:VK),Inv X pins σ H s->aC x v->aC y u->r x y H Q →
   subscripted slice false v u=operate [v,u] (getItem v u)->wpAny (model X.prog X.w) X.A (subscriptTail value slice v u) (EP X pins σ Q) X.xe s
noncomputable def DJ (X:Cx)(id:String)(r:V->List V->Hp->VK->Prop):Prop :=
 ∀ (pins:List (Addr × Obj))(s:Shared)(σ:St)(H:Hp)(x:V)(xs:List V)(v:Value)(us:List Value)(Q:VK),Inv X pins σ H s->aC x v->aK xs us->r x xs H Q →
   wpAny (model X.prog X.w) X.A (call (.builtin id) (v :: us)) (EP X pins σ Q) X.xe s
section
variable {X:Cx}{a b:Expr}{ta tb:TE}{pos:Pos}
theorem aS {r:R2}(hr:DO X r)(ha:PE X a ta)(hb:PE X b tb)(hs:yM b):PE X (.Subscript a b pos) (oh r ta tb):=by
 intro pins s σ H Q I h;exact Subscript_ (BX ha hb I h λv u s2 x y H2 I2 rx ry q=>hr a b pins s2 σ H2 x y v u Q I2 rx ry q (hs _ _))
noncomputable def EJ (K:PySem.W.Frag):R2:=λx y H Q=>∃ p xs i v,x = .ref p/\y = .int i/\bu K H p xs/\qO xs i=some v/\Q v H
noncomputable def CS (K:PySem.W.Frag):R2:=λx y H Q=>∃ p xs i v,x = .ref p/\y = .int i/\a9 K H p xs/\qO xs i=some v/\Q v H
theorem bA:DO X (EJ X.K):=by
 intro value slice pins s σ H x y v u Q I rx ry h hs;obtain ⟨p,xs,i,z,rfl,rfl,hq,he,q⟩:=h
 cases rx
 obtain ⟨t,rfl⟩:=ry;obtain ⟨its,r,pl,hz⟩:=I.list hq;obtain ⟨j,h1,h2,h3,h4,h5⟩:=tQ he;obtain ⟨w,ew,Gm⟩:=r.get h2;have hl:=r.length;have hn:=kh;have fin:EP X pins σ Q w s:=⟨z,H,I,Gm,q⟩
 by_cases h0:0<=i
 ·have hj:i.toNat=j:=by
   rw [seqIndex_of h0 h5] at h1;exact Option.some.inj h1
  exact item_listR pl.isList h0 (by omega) (by rw [hj]; simpa using ew) fin hs
 ·have hj:(i + (its.toArray.size:Int)).toNat=j:=by
   rw [seqIndex_neg (by omega) h4] at h1;rw [List.size_toArray,<-hl];exact Option.some.inj h1
  exact subscriptTail_builtinR (x:=w) pl.isList.typeIs slot_list_getitem.lookup
   (wpAny_getItem_list_neg (Q:=λr s'=>r=w/\EP X pins σ Q r s') pl.isList (by omega) (by rw [List.size_toArray] <;> omega) (by omega) (by rw [hj]; simpa using ew) ⟨rfl,fin⟩) hs
theorem a7:DO X (CS X.K):=by
 intro value slice pins s σ H x y v u Q I rx ry h hs;obtain ⟨p,xs,i,z,rfl,rfl,hq,he,q⟩:=h
 cases rx
 obtain ⟨t,rfl⟩:=ry;obtain ⟨its,r,pl,hz⟩:=I.tuple hq;obtain ⟨j,h1,h2,h3,h4,h5⟩:=tQ he;obtain ⟨w,ew,Gm⟩:=r.get h2;have hl:=r.length;have hn:=kh;have fin:EP X pins σ Q w s:=⟨z,H,I,Gm,q⟩
 exact subscriptTail_builtinR (x:=w) pl.typeIs slot_tuple_getitem.lookup
  (getItem_tuple (j:=j) (Q:=λr s'=>r=w/\EP X pins σ Q r s') pl (by omega) (by omega) (by rw [List.size_toArray,<-hl]; exact h1) (by simpa using ew) ⟨rfl,fin⟩) hs
theorem qp (its:List Value)(n j:Nat)(u:Value):Obj.mapSeq (·.setIfInBounds j u) { cls:=.type "list",data:=.seq its.toArray n }={ cls:=.type "list",data:=.seq (its.set j u).toArray n }:=by
 simp [Obj.mapSeq]
theorem Inv.lst {pins:List (Addr × Obj)}{σ:St}{H:Hp}{s:Shared}{p:Addr}{xs:List V}(I:Inv X pins σ H s)(h:H p=some (.lst xs)):
 ∃ (its:List Value)(n:Nat),aK xs its/\s.heap.get? p=some { cls:=.type "list",data:=.seq its.toArray n }/\xs.length<=sizeLine:=by
 obtain ⟨z,its,n,r,e⟩:=I.hok p _ h;exact ⟨its,n,r,e,z⟩
theorem Inv.lstUpd {pins:List (Addr × Obj)}{σ:St}{H:Hp}{s:Shared}{p:Addr}{xs ys:List V}{its its':List Value}{n n':Nat}{f:Obj->Obj}(I:Inv X pins σ H s)(h:H p=some (.lst xs))
 (ho:s.heap.get? p=some { cls:=.type "list",data:=.seq its.toArray n })(hf:f { cls:=.type "list",data:=.seq its.toArray n }={ cls:=.type "list",data:=.seq its'.toArray n' })(r:aK ys its')(hz:ys.length<=sizeLine)(t:Nat):
 Inv X pins σ (upd H p (.lst ys)) { s with heap:=s.heap.update p f,toks:=t }:=by
 have e:(s.heap.update p f).get? p=some { cls:=.type "list",data:=.seq its'.toArray n' }:=by
  rw [Heap.get?_update_self f ho (by rw [hf] <;> rfl),hf]
 refine I.write (x:=p) (e:=p) (by rw [h]; trivial) (.inl rfl) (λb u hb q=>(Heap.get?_update_other _ _ (Ne.symm hb)).trans q) ⟨_,e⟩ ?_;exact ⟨hz,its',n',r,e⟩
noncomputable def rSetL:V->V->V->Hp->(Hp->Prop)->Prop:=λo i v H Q=>∃ p xs k j,o = .ref p/\i = .int k/\H p=some (.lst xs)/\yI xs.length k=some j/\Q (upd H p (.lst (xs.set j v)))
theorem kF:Dw X rSetL:=by
 intro pins s σ H o i v ov iv u Q I ro ri rv h;obtain ⟨p,xs,k,j,rfl,rfl,hp,hj,q⟩:=h
 cases ro
 obtain ⟨t,rfl⟩:=ri;obtain ⟨its,n,r,ho,hz⟩:=I.lst hp;obtain ⟨h1,h2,h3,h4⟩:=rR hj;have hl:=r.length;have hn:=kh
 have I':Inv X pins σ (upd H p (.lst (xs.set j v))) { s with heap:=s.heap.update p (Obj.mapSeq (·.setIfInBounds j u)) }:=
  I.lstUpd hp ho (qp its n j u) (r.set rv j) (by rw [List.length_set]; exact hz) s.toks
 by_cases h0:0<=k
 ·have hk:k.toNat=j:=by
   rw [seqIndex_of h0 h4] at h1;exact Option.some.inj h1
  exact PySem.W.ki_setAt ho h0 (by omega) (by rw [List.size_toArray,<-hl]; exact h4) (by rw [hk]; exact ⟨_,I',q⟩)
 ·have hk:(k + (its.toArray.size:Int)).toNat=j:=by
   rw [seqIndex_neg (by omega) h3] at h1;rw [List.size_toArray,<-hl];exact Option.some.inj h1
  exact PySem.W.ki_setBack ho (by omega) (by rw [List.size_toArray,<-hl]; exact h3) (by omega) (by rw [hk]; exact ⟨_,I',q⟩)
noncomputable def eN:V->Bool
 | .non=>true
 | .bl _=>true
 | .int _=>true
 | .str _=>true
 | _=>false
noncomputable def vF:V->V->Bool
 | .non,.non=>true
 | .bl a,.bl b=>a == b
 | .bl a,.int b=>(if a then 1 else 0) == b
 | .int a,.bl b=>a == (if b then 1 else 0)
 | .int a,.int b=>a == b
 | .str a,.str b=>a == b
 | _,_=>false
theorem qo {A:Around}{s:Shared}{y x:V}{u v:Value}(ry:aC y u)(rx:aC x v)(fy:eN y=true)(fx:eN x=true):SeqAt.EqAt A s u v (vF y x):=by
 cases y with
 | non =>
   cases ry
   cases x with
   | non=>cases rx; exact SeqAt.EqAt.same _
   | bl b=>cases rx; exact SeqAt.EqAt.none_bool b
   | int b=>obtain ⟨t,rfl⟩:=rx; exact SeqAt.EqAt.none_int b t
   | str b=>obtain ⟨t,rfl⟩:=rx; exact SeqAt.EqAt.none_str b t
   | _=>exact absurd (show false=true from fx) Bool.false_ne_true
 | bl a =>
   cases ry
   cases x with
   | non=>cases rx; exact SeqAt.EqAt.bool_none a
   | bl b=>cases rx; exact SeqAt.EqAt.bool_bool a b
   | int b=>obtain ⟨t,rfl⟩:=rx; exact SeqAt.EqAt.bool_int a b t
   | str b=>obtain ⟨t,rfl⟩:=rx; exact SeqAt.EqAt.bool_str a b t
   | _=>exact absurd (show false=true from fx) Bool.false_ne_true
 | int a =>
   obtain ⟨t',rfl⟩:=ry
   cases x with
   | non=>cases rx; exact SeqAt.EqAt.int_none a t'
   | bl b=>cases rx; exact SeqAt.EqAt.int_bool a t' b
   | int b=>obtain ⟨t,rfl⟩:=rx; exact SeqAt.EqAt.int_int a t' b t
   | str b=>obtain ⟨t,rfl⟩:=rx; exact SeqAt.EqAt.int_str a t' b t
   | _=>exact absurd (show false=true from fx) Bool.false_ne_true
 | str a =>
   obtain ⟨t',rfl⟩:=ry
   cases x with
   | non=>cases rx; exact SeqAt.EqAt.str_none a t'
   | bl b=>cases rx; exact SeqAt.EqAt.str_bool a t' b
   | int b=>obtain ⟨t,rfl⟩:=rx; exact SeqAt.EqAt.str_int a t' b t
   | str b=>obtain ⟨t,rfl⟩:=rx; exact SeqAt.EqAt.str_str a t' b t
   | _=>exact absurd (show false=true from fx) Bool.false_ne_true
 | _=>exact absurd (show false=true from fy) Bool.false_ne_true
noncomputable def vG (x:V)(u:Value):Bool:=match u with
 | .none=>vF .non x
 | .bool b=>vF (.bl b) x
 | .int i _=>vF (.int i) x
 | .str z _=>vF (.str z) x
 | _=>false
theorem gI {x y:V}{u:Value}(r:aC y u)(f:eN y=true):vG x u=vF y x:=by
 cases y with
 | non=>cases r; rfl
 | bl b=>cases r; rfl
 | int i=>obtain ⟨t,rfl⟩:=r; rfl
 | str z=>obtain ⟨t,rfl⟩:=r; rfl
 | _=>exact absurd (show false=true from f) Bool.false_ne_true
theorem ny {x:V}:∀ {xs:List V}{us:List Value},aK xs us->xs.all eN=true->us.any (vG x)=xs.any λy=>vF y x
 | _,_,.nil,_=>rfl
 | y :: xs,u :: us,.cons r t,f=>by
   rw [List.all_cons,Bool.and_eq_true] at f;rw [List.any_cons,List.any_cons,gI r f.1,ny t f.2]
theorem j9 {A:Around}{s:Shared}{x:V}{v:Value}(rx:aC x v)(fx:eN x=true):∀ {xs:List V}{us:List Value},aK xs us->xs.all eN=true->∀ u∈us,SeqAt.EqAt A s u v (vG x u)
 | _,_,.nil,_=>λu hu=>by cases hu
 | y :: xs,u :: us,.cons r t,f=>λu' hu=>by
   rw [List.all_cons,Bool.and_eq_true] at f
   rcases List.mem_cons.mp hu with rfl | hu
   ·rw [gI r f.1]; exact qo r rx f.1 fx
   ·exact j9 rx fx t f.2 u' hu
noncomputable def Cs (x:V)(xs:List V):Bool:=xs.any λy=>vF y x
noncomputable def E5 (K:PySem.W.Frag)(neg:Bool):R2:=λx y H Q=>∃ p xs,y = .ref p/\(bu K H p xs\/a9 K H p xs)/\eN x=true/\xs.all eN=true/\Q (.bl (if neg then !Cs x xs else Cs x xs)) H
theorem mZ:f9 X (compareOp .NotIn) (E5 X.K true):=by
 intro pins s σ H x y v u Q I rx ry h;obtain ⟨p,xs,rfl,hq,fx,fs,q⟩:=h
 cases ry
 rcases hq with hq | hq
 ·obtain ⟨its,r,pl,hz⟩:=I.list hq;refine SeqAt.notIn_listAt (vG x) pl.isList (λw hw=>j9 rx fx r fs w (by simpa using hw)) ⟨.bl _,H,I,rfl,?_⟩;rw [show its.toArray.any (vG x)=its.any (vG x) by simp,ny r fs];exact q
 ·obtain ⟨its,r,pl,hz⟩:=I.tuple hq;refine SeqAt.notIn_tupleAt (vG x) pl (λw hw=>j9 rx fx r fs w (by simpa using hw)) ⟨.bl _,H,I,rfl,?_⟩;rw [show its.toArray.any (vG x)=its.any (vG x) by simp,ny r fs];exact q
theorem ck:eT X (.builtin "len") (λxs H Q=>∃ p ys,xs=[.ref p]/\(bu X.K H p ys\/a9 X.K H p ys)/\Q (.int ys.length) H):=by
 intro pins s σ H xs us Q I r h;obtain ⟨p,ys,rfl,hq,q⟩:=h;obtain ⟨u,rfl,rx⟩:=gf r
 cases rx
 have hn:=kh
 rcases hq with hq | hq
 ·obtain ⟨its,r',pl,hz⟩:=I.list hq;have hlen:=r'.length;exact Calls.call_len_list pl.isList (by simp only [List.size_toArray] <;> omega) ⟨.int ys.length,H,I.tok _,⟨s.toks + 1,by rw [List.size_toArray,hlen]⟩,q⟩
 ·obtain ⟨its,r',pl,hz⟩:=I.tuple hq;have hlen:=r'.length;exact len_tuple pl (by simp only [List.size_toArray] <;> omega) ⟨.int ys.length,H,I.tok _,⟨s.toks + 1,by rw [List.size_toArray,hlen]⟩,q⟩
theorem mK:eT X (.type "list") (λxs H Q=>∃ p ys,xs=[.ref p]/\(bu X.K H p ys\/a9 X.K H p ys)/\∀ l,H l=none->Q (.ref l) (upd H l (.lst ys))):=by
 intro pins s σ H xs us Q I r h;obtain ⟨p,ys,rfl,hq,q⟩:=h;obtain ⟨u,rfl,rx⟩:=gf r
 cases rx
 have fin:∀ (its:List Value),aK ys its->ys.length<=sizeLine->∀ (h':Heap)(c':Nat),(∀ b o',s.heap.get? b=some o'->h'.get? b=some o') →
  h'.get? s.heap.objs.size=some { cls:=.type "list",dict:=none,data:=.seq its.toArray c',slots:=#[] }->EP X pins σ Q (.ref s.heap.objs.size) { s with heap:=h' }:=λits r' hz h' c' kp e =>
  ⟨.ref s.heap.objs.size,_,I.laid (t':=s.toks) kp (Nat.le_refl _) (show ba X.prog X.w _ h' _ (.lst ys) from ⟨hz,its,c',r',e⟩),rfl,q _ (I.hok.fresh (Nat.le_refl _))⟩
 rcases hq with hq | hq
 ·obtain ⟨its,r',pl,hz⟩:=I.list hq;have hlen:=r'.length;obtain ⟨o,ho,hc,n,hd⟩:=pl.isList;exact call_list_seq p (.inl rfl) ho hc hd (λh' c' kp e=>fin its r' hz h' c' kp e) (by simp only [List.size_toArray] <;> omega)
 ·obtain ⟨its,r',pl,hz⟩:=I.tuple hq;have hlen:=r'.length;obtain ⟨o,ho,hc,n,hd⟩:=pl;exact call_list_seq p (.inr rfl) ho hc hd (λh' c' kp e=>fin its r' hz h' c' kp e) (by simp only [List.size_toArray] <;> omega)
theorem eB:eT X (.type "tuple") (λxs H Q=>∃ p ys,xs=[.ref p]/\((bu X.K H p ys/\∀ l,H l=none->Q (.ref l) (upd H l (.tup ys)))\/(a9 X.K H p ys/\Q (.ref p) H))):=by
 intro pins s σ H xs us Q I r h;obtain ⟨p,ys,rfl,h⟩:=h;obtain ⟨u,rfl,rx⟩:=gf r
 cases rx
 rcases h with ⟨hq,q⟩ | ⟨hq,q⟩
 ·obtain ⟨its,r',pl,hz⟩:=I.list hq;have hlen:=r'.length;refine call_tuple_list pl.isList (λh' kp=>?_) (by simp only [List.size_toArray] <;> omega);have I1:Inv X pins σ H { s with heap:=h' }:=I.kept (t':=s.toks) kp
  have I2:Inv X pins σ (upd H h'.objs.size (.tup ys)) { s with heap:=h'.push { cls:=.type "tuple",data:=.seq its.toArray } }:=
   I1.laid (t':=s.toks) (λb o e=>Heap.get?_push_of_some _ e) (Nat.le_refl _) (show ba X.prog X.w _ _ _ (.tup ys) from ⟨hz,its,r',IsTup.new _ _⟩)
  exact ⟨.ref h'.objs.size,_,I2,rfl,q _ (I1.hok.fresh (Nat.le_refl _))⟩
 ·obtain ⟨its,r',pl,hz⟩:=I.tuple hq;exact call_tuple_same pl ⟨.ref p,H,I,rfl,q⟩
noncomputable def ER (K:PySem.W.Frag)(T:String)(x:V)(H:Hp):Prop:=match x with
 | .str _=>T="str"
 | .int _=>T="int"
 | .ref p=>(T="list"/\∃ xs,bu K H p xs)\/(T="tuple"/\∃ o,K.lookup p=some o/\o.cls = .type "tuple"/\o.dict=none) \/
  (T="dict"/\((∃ E9,H p=some (.dK E9))\/∃ E9,H p=some (.dT E9)))\/(T="set"/\∃ S n,H p=some (.set S n))
 | _=>False
theorem A7 {pins:List (Addr × Obj)}{σ:St}{H:Hp}{s:Shared}{T:String}{x:V}{v:Value}(I:Inv X pins σ H s)(r:aC x v)(ty:ER X.K T x H):
 s.TypeIs v T/\∀ a,v = .ref a->∃ ob,s.heap.get? a=some ob/\ob.dict=none:=by
 cases x with
 | str z =>
   obtain ⟨t,rfl⟩:=r
   cases (show T="str" from ty)
   exact ⟨typeIs_str s z t,λ_ e=>nomatch e⟩
 | int i =>
   obtain ⟨t,rfl⟩:=r
   cases (show T="int" from ty)
   exact ⟨typeIs_int s i t,λ_ e=>nomatch e⟩
 | ref p =>
   cases r
   rcases ty with ⟨rfl,xs,hq⟩ | ⟨rfl,o,hk,hc,hd⟩ | ⟨rfl,hk⟩ | ⟨rfl,S,n,hk⟩
   ·obtain ⟨its,_,pl,_⟩:=I.list hq;refine ⟨pl.isList.typeIs,λa e=>?_⟩
    cases e
    obtain ⟨o,n,e,c,hd,_⟩:=pl;exact ⟨o,e,hd⟩
   ·refine ⟨⟨o,I.kIn p o hk,hc⟩,λa e=>?_⟩
    cases e
    exact ⟨o,I.kIn _ o hk,hd⟩
   ·have z:∃ o,s.heap.get? p=some o/\o.ExactDict:=by
     rcases hk with ⟨E9,hk⟩ | ⟨E9,hk⟩
     ·obtain ⟨_,_,_,_,o,_,_,e,ex,_⟩:=I.hok p _ hk;exact ⟨o,e,ex⟩
     ·obtain ⟨_,_,_,_,o,_,_,e,ex,_⟩:=I.hok p _ hk;exact ⟨o,e,ex⟩
    obtain ⟨o,e,ex⟩:=z;refine ⟨⟨o,e,ex.1⟩,λa e2=>?_⟩
    cases e2
    exact ⟨o,e,ex.2.1⟩
   ·obtain ⟨o,_,_,_,e,ex,_⟩:=I.hok p _ hk;refine ⟨⟨o,e,ex.1⟩,λa e2=>?_⟩
    cases e2
    exact ⟨o,e,ex.2.1⟩
 | _=>exact False.elim ty
noncomputable def E3 (K:PySem.W.Frag)(T:String)(r:V->List V->Hp->VK->Prop)(to:TE)(t:TA):TE:=λσ H Q=>to σ H λx H1=>ER K T x H1/\t σ H1 λxs H2=>r x xs H2 Q
variable {o e:Expr}{es:List Expr}{to:TE}{t:TA}{name:Str}{apos Fj:Pos}{T id:String}{r:V->List V->Hp->VK->Prop}
theorem sM (pa:PlainAttrs T)(slot:Slot T name id)(YI:typeOf (.builtin id)=pure (.type "method_descriptor"))(hm:DJ X id r)(ho:PE X o to)(ha:PA X (e :: es) t)
 (HS:attributeBase o name X.env (eval o X.env)=eval o X.env:=by rfl)
 (So:((backTo Fj (starEach (e :: es) X.env)).all (λx=>!x.1)&&(backToKw Fj (keywordEach [] X.env)).all (λx=>x.1.isSome)
  && decide ((e :: es).length + ([]:List Keyword).length + (if ([]:List Keyword).isEmpty then 0 else 1) < 30))=true:=by rfl)
 (HU:(apos.endLine == Fj.line)=true:=by rfl)(hs:starEach (e :: es) X.env=(false,eval e X.env):: starEach es X.env:=by rfl)(Lm:(backTo Fj (starEach es X.env)).any (·.1)=false:=by rfl):
 PE X (.Call (.Attribute o name apos) (e :: es) [] Fj) (E3 X.K T r to t):=by
 intro pins s σ H Q I h;refine wpAny_Call_method_late HS So HU rfl (bR (ho pins s σ H _ I h) λv s1 ⟨x,H1,I1,r1,ty,q1⟩=>?_);obtain ⟨h1,h2⟩:=A7 I1 r1 ty;refine ⟨T,id,pa,slot,YI,h1,h2,?_⟩;have hA:=ha Fj pins s1 σ H1 _ I1 q1;rw [hs] at hA |-;refine Calls.callWith_builtin (by show (false || (backTo Fj (starEach es X.env)).any (·.1))=false; rw [Lm] <;> rfl) (Calls.evalArgs_plain ?_);exact bR hA λus s2 ⟨vs,H2,I2,r2,q2⟩=>hm pins s2 σ H2 x vs v us Q I2 r1 r2 q2
/- xs.append(e),list.index on a Na tuple .. are DJ facts of 06m -/
end
noncomputable def E4 (X:Cx)(id:String)(r:V->List V->Hp->VK->Prop):Prop :=
 ∀ (pins:List (Addr × Obj))(s:Shared)(σ:St)(H:Hp)(x:V)(xs:List V)(v:Value)(us:List Value)(Q:VK),Inv X pins σ H s->aC x v->aK xs us->r x xs H Q →
   wpAny (model X.prog X.w) X.A (call (.builtin id) (v :: us)) (EP X pins σ Q) X.xe s
theorem aK.one:∀ {x:V}{us:List Value},aK [x] us->∃ u,us=[u]/\aC x u
 | _,_,.cons r .nil=>⟨_,rfl,r⟩
section
variable {X:Cx}{pins:List (Addr × Obj)}{σ:St}{H:Hp}{s:Shared}{l b:Addr}{xs ys zs:List V}
theorem Inv.lset {its its':List Value}{n:Nat}{f:Array Value->Array Value}{t':Nat}(I:Inv X pins σ H s)(hH:H l=some (.lst xs))
 (e:s.heap.get? l=some { cls:=.type "list",data:=.seq its.toArray n })(hf:f its.toArray=its'.toArray)(hv:aK ys its')(hz:ys.length<=sizeLine):
 Inv X pins σ (upd H l (.lst ys)) { s with heap:=s.heap.update l (Obj.mapSeq f),toks:=t' }:=by
 have q:=PySem.IsL.update e f;rw [hf] at q;refine I.write (x:=l) (e:=l) (by rw [hH]; exact trivial) (.inl rfl) (λb' u hb hu=>(Heap.get?_update_other s.heap (Obj.mapSeq f) (Ne.symm hb)).trans hu) ⟨_,q⟩ ?_;exact ⟨hz,its',_,hv,q⟩
theorem Inv.lnew {its:List Value}{t':Nat}(I:Inv X pins σ H s)(hv:aK ys its)(hz:ys.length<=sizeLine):
 Inv X pins σ (upd H s.heap.objs.size (.lst ys)) { s with heap:=s.heap.push { cls:=.type "list",data:=.seq its.toArray },toks:=t' }:=
 I.laid (λ_ _ q=>Heap.get?_push_of_some _ q) (Nat.le_refl _) ⟨hz,its,0,hv,Heap.get?_push_size _ rfl⟩
theorem Inv.fresh (I:Inv X pins σ H s):H s.heap.objs.size=none:=I.hok.fresh (Nat.le_refl _)
theorem Inv.lstM (I:Inv X pins σ H s)(hH:H l=some (.lst xs)):xs.length<=sizeLine/\∃ (its:List Value)(n:Nat),aK xs its/\xs.length=its.length/\s.heap.get? l=some { cls:=.type "list",data:=.seq its.toArray n }:=by
 obtain ⟨z,its,n,r,e⟩:=I.hok l _ hH;exact ⟨z,its,n,r,r.length,e⟩
end
section
variable {X:Cx}
noncomputable def rAppend:V->List V->Hp->VK->Prop:=λx vs H Q=>∃ l xs y,x = .ref l/\vs=[y]/\H l=some (.lst xs)/\xs.length < sizeLine/\Q .non (upd H l (.lst (xs++[y])))
theorem mn:E4 X "list.append" rAppend:=by
 intro pins s σ H x vs v us Q I rx rv h;obtain ⟨l,xs,y,rfl,rfl,hH,hz,q⟩:=h
 cases rx
 obtain ⟨u,rfl,ru⟩:=rv.one;obtain ⟨z,its,n,r,hl,e⟩:=I.lstM hH;refine call_meets F.slot_list_append ⟨_,e,rfl⟩ F.entry_list_append (F.args_list_append_2 _ _) (PySem.list_append l its.toArray n u (by rw [List.size_toArray]; omega)) ⟨e,?_⟩;refine ⟨.non,_,I.lset (its':=its++[u]) hH e (by simp) (r.append (.cons ru .nil)) ?_,rfl,q⟩;rw [List.length_append,List.length_singleton];omega
noncomputable def rCat:R2:=λx y H Q=>∃ l b xs zs,x = .ref l/\y = .ref b/\H l=some (.lst xs)/\H b=some (.lst zs)/\xs.length + zs.length<=sizeLine/\∀ p,H p=none->Q (.ref p) (upd H p (.lst (xs++zs)))
theorem xX:f9 X (binaryOp .Add) rCat:=by
 intro pins s σ H x y v u Q I rx ry h;obtain ⟨l,b,xs,zs,rfl,rfl,hH,hB,hz,q⟩:=h
 cases rx
 cases ry
 obtain ⟨z,its,n,r,hl,e⟩:=I.lstM hH;obtain ⟨z2,Fe,n2,r2,GO,e2⟩:=I.lstM hB;refine PySem.P.add_list e e2 ?_ (by rw [List.size_toArray,List.size_toArray]; omega)
 have ea:its.toArray++Fe.toArray=(its++Fe).toArray:=by simp
 rw [ea];exact ⟨.ref _,_,I.lnew (t':=s.toks) (r.append r2) (by rw [List.length_append]; omega),rfl,q _ I.fresh⟩
end
end L2
namespace Wq
open PySem PySem.W PySem.Calls PyProof.Rows
theorem i4 {P:Params}{h:Heap}:∀ (ns:List Int)(vs:List Value),WellAll P h vs (ns.map WData.int)->IntsAre vs ns:=by
 intro ns
 induction ns with
 | nil =>
   intro vs w;rw [List.map_nil] at w
   cases w
   exact .nil
 | cons n ns ih =>
   intro vs w;rw [List.map_cons] at w
   cases w with
   | cons a b =>
     cases a
     exact .cons _ _ (ih _ b)
theorem ui {l:OpenLaw}{n:Nat}(hn:l.most=some n){P:Params}{h:Heap}{args:List WData}{vals:List Value}
 (Jn:l.row.toRowW.claim.pre args=true)(Sq:WellAll P h vals args):
 ∃ a vs ns,vals=[Value.ref a]/\args=[WData.list (ns.map WData.int)]/\h.get? a=some { cls:=.type "list",data:=.seq vs.toArray }/\IntsAre vs ns/\ns.length<=n:=by
 have YJ:WShape.hasAll [] args [.list .int]=true:=(pre_splitW Jn).1;have hc:l.pre.holds [] { args:=args }=true:=(pre_splitW Jn).2;obtain ⟨d,r,rfl,h1,h2⟩:=hasAllW_cons YJ;obtain rfl:=hasAllW_nil h2;obtain ⟨xs,rfl,h3⟩:=hasW_list h1;obtain ⟨ns,rfl⟩:=items_int h3
 have hlen:ns.length<=n:=by
  unfold OpenLaw.pre at hc
  have h4:(WTm.not (.lt (.lit (.int (n:Int))) (.len (.arg 0)))).holds [] { args:=[.list (ns.map .int)] }=true:=by
   have h4:=(holds_andW hc).1;rw [hn] at h4;exact h4
  have h5:=condW_of h4 (w_not (w_lt w_lit (w_len_list (w_arg rfl))));rw [List.length_map] at h5;refine Nat.le_of_not_lt λq=>?_
  have q':(n:Int) < ((ns.length:Nat):Int):=by omega
  first
   | (rw [decide_eq_true q'] at h5; exact absurd h5 (by decide))
   | (simp at h5; omega)
 cases Sq with
 | cons w1 w2 =>
   cases w2
   cases w1 with
   | list ho FX=>exact ⟨_,_,ns,rfl,rfl,ho,i4 ns _ FX,hlen⟩
theorem ve (l:OpenLaw)(args:List WData):l.row.toRowW.claim.post args (.bool true) args=true :=
 postW_of (r:=l.row.toRowW) (X:=(true == true))
  (show WShape.has [] (.bool true) .bool=true by first | rfl | decide | simp [WShape.has,WShape.arms,WShape.armsAll])
  (show (WTm.eq .res (.lit (.bool true))).value [] { args:=args,res:=some (.bool true),after:=args }=some (.bool (true == true)) from w_eq_bool (w_res rfl) w_lit) rfl
theorem pI {l:OpenLaw}{n:Nat}{q:Program}{loose:List Str}{XP:(Str->Option Value)->Heap->Prop}{YP:World->Heap->Prop}{d:DefRec}
 (hn:l.most=some n)(Nb:d.params.defaults=[])
 (call:∀ (w:World)(s₀ s₁:Shared)(mg mb:Str->Option Value)(fa:Addr)(o:Obj)(pm cd doc:Value)(a:Addr)(vs:List Value)(ns:List Int),
  Ground q loose [] XP w s₀ mg mb s₁.heap->YP w s₁.heap →
  s₁.heap.get? fa=some o->o.data = .func (docDef d.name d.params d.body d.scope pm cd doc)->s₁.heap.CodeRec cd d.name->mg d.name=some (.ref fa) →
  s₁.heap.get? a=some { cls:=.type "list",data:=.seq vs.toArray }->IntsAre vs ns->ns.length<=n->s₁.gens = #[] →
  codeAny (model l.prog w) callerA (.call (.ref fa) ⟨[.ref a],[]⟩) (λr s'=>r = .ok (.ret (.bool true))/\OldK s₁.heap s'.heap/\s'.os=s₁.os/\AllBare s'.gens) s₁):
 WalkO q loose XP YP l.row.toRowW d [] (λf vs=>PySem.call f vs):=by
 intro w s₀ s₁ mg mb G Y fa o pm cd doc dV kV ho hd F7 hD Sr hg args vals as Jn YK hrd Sq hlo;obtain rfl:dV = .none:=Dflts.none hD Nb;obtain rfl:kV = .none:=Dflts.noKw hD;obtain ⟨a,vs,ns,rfl,rfl,Ln,hints,hlen⟩:=ui hn Jn Sq;refine enter_call (codeAny_mono (call w s₀ s₁ mg mb fa o pm cd doc a vs ns G Y ho (fd_plain hd) F7 Sr Ln hints hlen hg) λr s' hq=>?_);obtain ⟨rfl,h2,h3,h4⟩:=hq;exact ⟨.inl ⟨.bool true,.bool true,[],rfl,λ_=>rfl,.bool true,ve l _,λ_=>⟨List.Pairwise.nil,λ_ hm=>(nomatch hm)⟩⟩,h2,h3,h4⟩
end Wq
namespace L2
open PySem PySem.Spec PyProof.Rows
theorem lI:∀ {vs:List Value}{ns:List Int},IntsAre vs ns->aK (ns.map V.int) vs
 | _,_,.nil=>.nil
 | _,_,.cons n t h=>.cons ⟨t,rfl⟩ (lI h)
structure Fun (K:PySem.W.Frag)(x qual:Str)(st:Stmt)(f:Addr)(fd:FuncData):Prop where
 ex:∃ (oc:Value)(od:Option Addr)(kV doc pm:Value)(an:Option Addr)(Fb ct:Value)(Fo:Array (Option Value)),
  fd=PySem.W.fnOf x qual (cg st) (bz st) (aq st) .none kV doc pm an Fb ct/\K.lookup f=some ⟨oc,od,.func fd,Fo⟩/\PySem.W.codeIn K Fb qual=true
 kp:PySem.W.keepIn K (.ref f)=true
section
variable {P:Program}{w:World}{K:PySem.W.Frag}{mg:Str->Option Value}{base:Heap}
theorem Fun.binds {x qual:Str}{st:Stmt}{f:Addr}{fd:FuncData}{ps:List Str}(F:Fun K x qual st f fd)
 (h:∀ (kV doc pm:Value)(an:Option Addr)(Fb ct:Value)(us:List Value),us.length=ps.length->bindArgs (PySem.W.fnOf x qual (cg st) (bz st) (aq st) .none kV doc pm an Fb ct) ⟨us,[]⟩=pure (ps.zip us)):aA K fd ps []:=by
 obtain ⟨oc,od,kV,doc,pm,an,Fb,ct,Fo,rfl,lk,F7⟩:=F.ex;exact .all (h kV doc pm an Fb ct)
theorem Cj {x qual:Str}{st:Stmt}{f:Addr}{oc:Value}{od an:Option Addr}{Fo:Array (Option Value)}{kV doc pm Fb ct:Value}(l:K.lookup f=some ⟨oc,od,.func (PySem.W.fnOf x qual (cg st) (bz st) (aq st) .none kV doc pm an Fb ct),Fo⟩)
 (c:PySem.W.codeIn K Fb qual=true)(k:PySem.W.keepIn K (.ref f)=true):Fun K x qual st f (PySem.W.fnOf x qual (cg st) (bz st) (aq st) .none kV doc pm an Fb ct):=⟨⟨oc,od,kV,doc,pm,an,Fb,ct,Fo,rfl,l,c⟩,k⟩
end
theorem uF {n:Nat}(h:n<=1000):n < sizeLine:=Nat.lt_of_le_of_lt h (by decide)
section
variable {X:Cx}
theorem pv (i:Nat){x:Str}{pos:Pos}(hN:X.N[i]?=some x:=by rfl)(hv:DH X.env.scope x:=by first | exact Or.inl rfl | exact Or.inr (Or.inl rfl) | exact Or.inr (Or.inr rfl))(hd:(x == ("__debug__":Str))=false:=by decide)
 (F7:(x == ("__classdict__":Str))=false:=by decide):PE X (.Name x pos) (gH i):=BC hN hv hd F7
end
theorem bF {A B:Prop}(h:B):if false=true then A else B:=by
 rw [if_neg Bool.false_ne_true];exact h
theorem cb {A B:Prop}(h:A):if true=true then A else B:=by
 rw [if_pos rfl];exact h
theorem cz {c A B:Prop} [Decidable c](h1:c->A)(h2:¬ c->B):if c then A else B:=by
 by_cases h:c
 ·rw [if_pos h];exact h1 h
 ·rw [if_neg h];exact h2 h
noncomputable def aB (H H':Hp):Prop:=∀ b o,H b=some o->H' b=some o
theorem aB.refl (H:Hp):aB H H:=λ_ _ h=>h
theorem aB.trans {H H1 H2:Hp}(a:aB H H1)(b:aB H1 H2):aB H H2:=λc o h=>b c o (a c o h)
theorem da {P:Program}{w:World}{H:Hp}{h:Heap}{a:Addr}{o:HO}(x:eG P w H h)(hn:H a=none)(new:ba P w (upd H a o) h a o):eG P w (upd H a o) h:=λb u e=>by
 by_cases hb:b=a
 ·subst hb; rw [ah] at e; cases e; exact new
 ·rw [ao hb] at e
  exact (x b u e).stay (λc v _ q=>q) (λc q=>by rw [ao (au q hn)]; exact q) λc xs q=>by rw [ao (au q hn)]; exact q
section
variable {prog:Program}{w:World}{A:Around}{R:Result->Shared->Prop}{s:Shared}
theorem nG {elt target iter:Expr}{ifs:List Expr}{scope:Scope}{pos:Pos}{it acc:Value}{env:Env}(I:Nat->Shared->Prop)
 (turn:∀ n s,I n s->wpAny (model prog w) A (pyNext it) (λr s₁=>match r with
  | none=>R (.ok .next) s₁
  | some v=>wpAny (model prog w) A (letOwnedTupleGo target it v) (λ_ s₁=>wpAny (model prog w) A (assign target env v) (λ_ s₂ =>
   wpAny (model prog w) A (forIn ifs true λc r=>if r=true then do let ok <-isTrue c env (eval c env); pure (ForInStep.yield ok) else pure (ForInStep.yield r)) (λok s₃ =>
    if ok=true then wpAny (model prog w) A (eval elt env) (λx s₄ =>
     wpAny (model prog w) A (call (.builtin "list.append") [acc,x]) (λ_ s₅=>∃ m,m < n/\I m s₅) (λ_ _=>False) s₄) (λ_ _=>False) s₃
    else ∃ m,m < n/\I m s₃) (λ_ _=>False) s₂) (λ_ _=>False) s₁) (λ_ _=>False) s₁) (λ_ _=>False) s)
 (n:Nat)(h:I n s):
 codeAny (model prog w) A (.compLoop (.ListComp elt [⟨target,iter,ifs,0⟩] scope pos) 0 it acc env) R s:=by
 refine codeAny_loop rfl I (λn s hI=>?_) n h;show wpAny _ A ((compTurn (.ListComp elt [⟨target,iter,ifs,0⟩] scope pos) 0 it acc env).onRaise (λx=>do noteFrame x env; theTreesLotGoes x)) _ _ s;refine wpAny_noted ?_;rw [compTurn_list];refine wpAny_bind (wpAny_standAt (wpAny_bind (wpAny_mono (turn n s hI) (λr s₁ h₁=>?_) λ_ _ z=>False.elim z)))
 cases r with
 | none=>exact wpAny_pure h₁
 | some v =>
   refine wpAny_bind (wpAny_mono h₁ (λ_ Wr Nc=>?_) λ_ _ z=>False.elim z);refine wpAny_bind (wpAny_mono Nc (λ_ s₂ h₂=>wpAny_bind (wpAny_mono h₂ (λok s₃ h₃=>?_) λ_ _ z=>False.elim z)) λ_ _ z=>False.elim z)
   cases ok with
   | false=>exact wpAny_pure ⟨rfl,h₃⟩
   | true =>
     exact wpAny_bind (wpAny_bind (wpAny_mono h₃ (λx s₄ h₄=>wpAny_bind (wpAny_mono h₄ (λ_ s₅ h₅=>wpAny_pure (wpAny_pure ⟨rfl,h₅⟩)) λ_ _ z=>False.elim z)) λ_ _ z=>False.elim z))
end
noncomputable def dA (names:List (Str × NameKind))(env:Env):List (Str × Addr):=((names.filter λx=>x.2 == .free).map λx=>(x.1,(env.cells.lookup x.1).getD 0)).reverse
theorem gc {scope:Scope}{env:Env}(h:∀ x∈scope.names,x.2 = .free->∃ c,env.cells.lookup x.1=some c):closureFor scope env=pure (dA scope.names env):=by
 have key:∀ (names:List (Str × NameKind))(cs:List (Str × Addr)),(∀ x∈names,x.2 = .free->∃ c,env.cells.lookup x.1=some c) →
  (forIn names cs (λ(x:Str × NameKind)(r:List (Str × Addr))=>if (x.2 == NameKind.free)=true then (do let a <-cellOf env x.1; pure (ForInStep.yield ((x.1,a):: r))) else pure (ForInStep.yield r)):Sem (List (Str × Addr)))=pure (dA names env++cs):=by
  intro names
  induction names with
  | nil=>intro cs _; rfl
  | cons x r ih =>
    intro cs hn;rw [List.forIn_cons];obtain ⟨n,k⟩:=x
    by_cases hk:k = .free
    ·subst hk;obtain ⟨c,hc⟩:=hn (n,.free) List.mem_cons_self rfl
     have Lo:cellOf env n=pure c:=by unfold cellOf; rw [hc]
     simp only [beq_self_eq_true,if_true,Lo,pure_bind];rw [ih _ λy hy=>hn y (List.mem_cons_of_mem _ hy)];simp [dA,hc]
    ·have hb:(k == NameKind.free)=false:=by simpa using hk
     simp only [hb,Bool.false_eq_true,if_false,pure_bind];rw [ih _ λy hy=>hn y (List.mem_cons_of_mem _ hy)];simp [dA,hb]
 have z:=key scope.names [] h;rw [List.append_nil] at z;unfold closureFor
 first
  | exact z
  | (simp only [bind_pure]; exact z)
  | (simp; exact z)
theorem jF {names:List (Str × NameKind)}{env:Env}(h:∀ x∈names,x.2 = .free->∃ c,env.cells.lookup x.1=some c){x:Str}{c:Addr}(e:(dA names env).lookup x=some c):env.cells.lookup x=some c:=by
 have m:=PySem.mem_of_lookup e;unfold dA at m;rw [List.mem_reverse,List.mem_map] at m;obtain ⟨y,hy,e'⟩:=m;rw [List.mem_filter] at hy;obtain ⟨c',Fi⟩:=h y hy.1 (by simpa using hy.2);rw [Fi] at e'
 injection e' with e1 e2
 subst e1;rw [Fi];exact congrArg some e2
theorem pF {names:List (Str × NameKind)}{env:Env}{x:Str}(hm:(x,NameKind.free)∈names):∃ c,(dA names env).lookup x=some c:=by
 have m:∃ c,(x,c)∈dA names env:=⟨(env.cells.lookup x).getD 0,by
  unfold dA;rw [List.mem_reverse,List.mem_map]
  exact ⟨(x,.free),List.mem_filter.mpr ⟨hm,rfl⟩,rfl⟩⟩
 obtain ⟨c,m⟩:=m
 cases q:(dA names env).lookup x with
 | some d=>exact ⟨d,rfl⟩
 | none =>
   exfalso
   have:∀ (l:List (Str × Addr)),(x,c)∈l->l.lookup x≠none:=by
    intro l
    induction l with
    | nil=>intro h; cases h
    | cons p r ih =>
      intro h;rw [List.lookup_cons]
      rcases List.mem_cons.mp h with h | h
      ·subst h; simp
      ·split
       ·simp
       ·exact ih h
   exact this _ m q
noncomputable def cp (X:Cx)(N:List Str)(scope:Scope)(C:Addr)(fp:List Addr)(s:Shared)(H:Hp):Cx where
 prog:=X.prog
 w:=X.w
 K:=X.K
 mg:=X.mg
 base:=X.base
 A:=X.A
 N:=N
 s₀:=s
 H₀:=H
 env:=compEnvC scope (dA scope.names X.env) C X.env
 outer:=X.stack
 stack:=X.stack
 ex:=fp
 fn:=λ_=>false
 calm:=X.calm
 pn:=[]
 xe:=λ_ _=>False
noncomputable def σC (nl:Nat)(js:List Nat)(σ:St):St:=List.replicate nl none++js.map λj=>(σ[j]?).join
structure CompOk (X:Cx)(N:List Str)(nl:Nat)(js:List Nat)(osc scope:Scope):Prop where
 out:X.env.scope=osc
 kind:scope.kind = .function
 cell:∀ y∈scope.names,y.2 ≠ .cell
 names:∀ y∈scope.names,y.2 = .local->scope.names.lookup y.1=some .local
 free:∀ y∈scope.names,y.2 = .free->osc.names.lookup y.1=some .cell\/osc.names.lookup y.1=some .free
 len:N.length=nl + js.length
 src:Paired (λj x=>X.N[j]?=some x/\(x,NameKind.free)∈scope.names) js (N.drop nl)
 nolf:∀ y∈scope.names,y.2 = .free->scope.names.lookup y.1≠some .local
theorem eY {env:Env}:∀ {names:List (Str × NameKind)}{x:Str}{k:NameKind},(∀ y∈names,y.2 ≠ .cell) →
 (names.map λ(n,k)=>if (k == NameKind.free&&env.scope.kind == .function&&env.kindOf n == some .cell) then (n,NameKind.cell) else (n,k)).lookup x=some k->(k = .cell\/k = .free)->(x,NameKind.free)∈names
 | [],_,_,_,h,_=>by simp at h
 | (n,k0):: r,x,k,hc,h,hk=>by
   have h:List.lookup x ((if (k0 == NameKind.free&&env.scope.kind == .function&&env.kindOf n == some .cell)=true then (n,NameKind.cell) else (n,k0)):: r.map λ(n,k)=>if (k == NameKind.free&&env.scope.kind == .function&&env.kindOf n == some .cell) then (n,NameKind.cell) else (n,k))=some k:=h;have ih:=@eY env r x k λy hy=>hc y (List.mem_cons_of_mem _ hy)
   by_cases hx:x=n
   ·subst hx
    have Lp:k0 = .free:=by
     by_cases hb:(k0 == NameKind.free&&env.scope.kind == .function&&env.kindOf x == some .cell)=true
     ·have:=(Bool.and_eq_true_iff.mp (Bool.and_eq_true_iff.mp hb).1).1;simpa using this
     ·rw [if_neg hb] at h;simp only [List.lookup_cons,beq_self_eq_true] at h;have e:k0=k:=Option.some.inj h
      rcases hk with z | z
      ·exact absurd (e.trans z) (hc (x,k0) List.mem_cons_self)
      ·exact e.trans z
    subst Lp;exact List.mem_cons_self
   ·have hb:(x == n)=false:=by simpa using hx
    refine List.mem_cons_of_mem _ (ih ?_ hk)
    by_cases Fi:(k0 == NameKind.free&&env.scope.kind == .function&&env.kindOf n == some .cell)=true
    ·rw [if_pos Fi] at h; simp only [List.lookup_cons,hb] at h; exact h
    ·rw [if_neg Fi] at h; simp only [List.lookup_cons,hb] at h; exact h
section
variable {X:Cx}{tg iter elt:Expr}{ifs:List Expr}{scope osc:Scope}{pos:Pos}{N:List Str}{nl:Nat}{js:List Nat}
noncomputable def ze (X:Cx)(ifs:List Expr)(t:TT):Prop :=
 ∀ (pins:List (Addr × Obj))(s:Shared)(σ:St)(H:Hp)(Q:Bool->Hp->Prop),Inv X pins σ H s->t σ H Q →
   wpAny (model X.prog X.w) X.A (forIn ifs true λc r=>if r=true then do let ok <-isTrue c X.env (eval c X.env); pure (ForInStep.yield ok) else pure (ForInStep.yield r)) (TP X pins σ Q) X.xe s
noncomputable def tYes:TT:=λ_ H Q=>Q true H
theorem d6:ze X [] tYes:=λ_ _ _ H _ I h=>wpAny_tests_nil ⟨H,I,h⟩
theorem nJ {c:Expr}{t:TT}(h:PT X c t):ze X [c] t:=λpins s σ H Q I hw=>wpAny_tests_one (h pins s σ H Q I hw)
theorem cA {pins:List (Addr × Obj)}{σ:St}{H:Hp}{s:Shared}{b:Addr}{h':Heap}(I:Inv X pins σ H s)(f:cC X pins H b)(sb:Heap.SameBut b s.heap h'):Inv X pins σ H { s with heap:=h' }:=
 I.turned (t':=s.toks) (λc o hc e=>(sb.2 c hc).trans e) f.1 f.2.1 f.2.2.2.1 f.2.2.2.2.1 f.2.2.2.2.2
noncomputable def lA (J:It)(g:TG)(tt:TT)(te:TE)(W:Nat->Nat->List V->St->Hp->Prop)(Fin:List V->Hp->Prop):Prop :=
 ∀ i m xs σ' H',W i m xs σ' H'->xs.length < sizeLine/\((J.stop i H'/\Fin xs H') \/
   (J.go i H'/\∀ x H2,J.yld i H' x H2->g x σ' H2 λσ3 H3=>tt σ3 H3 λb H4 =>
    if b=true then te σ3 H4 λy H5=>∃ m',m' < m/\W (i + 1) m' (xs++[y]) σ3 H5 else ∃ m',m' < m/\W (i + 1) m' xs σ3 H4))
theorem lH {pins:List (Addr × Obj)}{σ:St}{H:Hp}{s:Shared}{fp:List Addr}{h1:Heap}{C:Addr}{tk:Nat}(S:CompOk X N nl js osc scope)(I:Inv X pins σ H s)(f:∀ b∈fp,cC X pins H b)(Jo:∀ b∈fp,b < s.heap.objs.size)
 (hC:s.heap.objs.size<=C)(old:∀ b o,s.heap.get? b=some o->h1.get? b=some o){m1:Str->Option Value}(JK:h1.Ns C m1):
 Inv (cp X N scope C fp s H) [] (σC nl js σ) H { s with heap:=h1,toks:=tk }:=by
 have Fz:∀ y∈scope.names,y.2 = .free->X.env.kindOf y.1=some .cell\/X.env.kindOf y.1=some .free:=λy hy hf=>by
  have:=S.free y hy hf;rw [<-S.out] at this;exact this
 have F0:∀ y∈scope.names,y.2 = .free->∃ c,X.env.cells.lookup y.1=some c:=λy hy hf=>I.ok.has y.1 (Fz y hy hf);have sub:∀ x c,(dA scope.names X.env).lookup x=some c->X.env.cells.lookup x=some c:=λx c e=>jF F0 e
 have Lq:∀ b∈fp,b ∉ df X.stack:=λb hb z=>by
  rcases List.mem_cons.mp (I.stkSub b z) with q | q
  ·exact (f b hb).2.1 q
  ·exact (f b hb).2.2.1 q
 refine ⟨⟨I.ok.mod,S.kind,I.ok.glob,I.ok.blt,hC,λx y c e1 e2=>I.ok.inj x y c (sub x c e1) (sub y c e2),λx hx=>?_,λx c z _=>absurd z (by show ¬ (false=true); decide),I.ok.hd,I.ok.frames,.inl rfl,
  λb hb=>⟨Nat.ne_of_lt (Nat.lt_of_lt_of_le (Jo b hb) hC),λx c e=>(f b hb).2.2.2.2.1 x c (sub x c e)⟩,I.bs,Nat.le_trans I.ok.bsz I.sz,λb o e hb=>?_,Lq,I.stack,I.stkFree⟩,
  rfl,I.bare,Un.kept old,⟨m1,JK,λi x v e1 e2 e3=>?_⟩,λx c e=>?_,I.hok.fresh hC,λx c e=>I.freeC x c (sub x c e),λp hp=>absurd (show p∈([]:List (Addr × Obj)) from hp) (by simp),I.hok.kept old,?_⟩
 ·have hx:(relabel scope X.env).names.lookup x=some .cell\/(relabel scope X.env).names.lookup x=some .free:=hx
  have m:(x,NameKind.free)∈scope.names:=by
   rcases hx with z | z
   ·exact eY S.cell z (.inl rfl)
   ·exact eY S.cell z (.inr rfl)
  exact pF m
 ·rcases (f b hb).2.2.2.1 with z | z
  ·exact I.ok.noex b o e z
  ·exact absurd (Nat.lt_of_lt_of_le (Heap.lt_size e) (Nat.le_trans I.ok.bsz z)) (Nat.lt_irrefl _)
 ·-- JG names
  have e1:N[i]?=some x:=e1;unfold σC at e2
  by_cases hi:i < nl
  ·rw [List.getElem?_append_left (by simpa using hi),List.getElem?_replicate] at e2
   split at e2 <;> cases e2
  ·obtain ⟨k,rfl⟩:∃ k,i=nl + k:=⟨i - nl,by omega⟩;rw [List.getElem?_append_right (by simp),List.length_replicate,Nat.add_sub_cancel_left,List.getElem?_map] at e2
   cases ej:js[k]? with
   | none=>rw [ej] at e2; cases e2
   | some j =>
     rw [ej] at e2;have e2:some ((σ[j]?).join)=some (some v):=e2;have e2:=Option.some.inj e2
     have e4:σ[j]?=some (some v):=by
      cases q:σ[j]? with
      | none=>rw [q] at e2; cases e2
      | some z=>rw [q] at e2; exact congrArg some e2
     have e5:(N.drop nl)[k]?=some x:=by rw [List.getElem?_drop]; exact e1
     have gp:∀ {l1:List Nat}{l2:List Str}{k:Nat}{j:Nat}{x:Str},Paired (λj x=>X.N[j]?=some x/\(x,NameKind.free)∈scope.names) l1 l2->l1[k]?=some j->l2[k]?=some x->X.N[j]?=some x/\(x,NameKind.free)∈scope.names:=by
      intro l1 l2 k j x p
      induction p generalizing k with
      | nil=>intro h; simp at h
      | cons r _ ih =>
        intro h1 h2
        cases k with
        | zero=>simp at h1 h2; subst h1; subst h2; exact r
        | succ k=>exact ih (by simpa using h1) (by simpa using h2)
     obtain ⟨hx,hm⟩:=gp S.src ej e5;have hk:=Fz (x,.free) hm rfl;obtain ⟨m,hn,hl⟩:=I.loc
     have YL:DH X.env.scope x:=by
      rcases hk with z | z
      ·exact .inr (.inl z)
      ·exact .inr (.inr z)
     obtain ⟨u,r,l⟩:=hl j x v hx e4 YL;refine ⟨u,r,?_⟩
     rcases l with ⟨k1,_⟩ | ⟨_,c,hc,Fu⟩
     ·exfalso
      rcases hk with z | z <;> (rw [z] at k1; cases k1)
     ·obtain ⟨c',Fi⟩:=pF (env:=X.env) hm;have:=sub x c' Fi;rw [hc] at this
      cases this
      refine .inr ⟨?_,c,Fi,?_⟩
      ·rcases e3 with z | z | z
       ·-- a name of JG Rp own: no
        exfalso
        have lk:scope.names.lookup x=some .local:=by
         have gen:∀ (l:List (Str × NameKind)),(l.map λ(n,k)=>if (k == NameKind.free&&X.env.scope.kind == .function&&X.env.kindOf n == some .cell) then (n,NameKind.cell) else (n,k)).lookup x=some .local->l.lookup x=some .local:=by
          intro l
          induction l with
          | nil=>intro h; simp at h
          | cons p r ih =>
            obtain ⟨n,k0⟩:=p;intro h;have h:List.lookup x ((if (k0 == NameKind.free&&X.env.scope.kind == .function&&X.env.kindOf n == some .cell)=true then (n,NameKind.cell) else (n,k0)):: r.map λ(n,k)=>if (k == NameKind.free&&X.env.scope.kind == .function&&X.env.kindOf n == some .cell) then (n,NameKind.cell) else (n,k))=some .local:=h
            cases hb:x == n with
            | true =>
              by_cases Fi:(k0 == NameKind.free&&X.env.scope.kind == .function&&X.env.kindOf n == some .cell)=true
              ·rw [if_pos Fi] at h; simp only [List.lookup_cons,hb] at h; cases h
              ·rw [if_neg Fi] at h; simp only [List.lookup_cons,hb] at h |-; exact h
            | false =>
              simp only [List.lookup_cons,hb];refine ih ?_
              by_cases Fi:(k0 == NameKind.free&&X.env.scope.kind == .function&&X.env.kindOf n == some .cell)=true
              ·rw [if_pos Fi] at h; simp only [List.lookup_cons,hb] at h; exact h
              ·rw [if_neg Fi] at h; simp only [List.lookup_cons,hb] at h; exact h
         exact gen _ z
        exact S.nolf (x,.free) hm rfl lk
       ·exact .inl z
       ·exact .inr z
      ·obtain ⟨o,ho,hd⟩:=Fu;exact ⟨o,old _ _ ho,hd⟩
 ·obtain ⟨v,o,ho,hd⟩:=I.cell x c (sub x c e);exact ⟨v,o,old _ _ ho,hd⟩
 ·show (σC nl js σ).length=N.length;unfold σC;rw [List.length_append,List.length_replicate,List.length_map,S.len]
noncomputable abbrev ib (ys:List Value)(k:Nat):Obj:={ cls:=.type "list",data:=.seq ys.toArray k }
theorem jB {pins:List (Addr × Obj)}{σ:St}{H:Hp}{s:Shared}{J:It}{it:Addr}{fp:List Addr}{tn:Nat->Heap->Prop}{g:TG}{tt:TT}{te:TE}{W:Nat->Nat->List V->St->Hp->Prop}{Fin:List V->Hp->Prop}
 {E:Value->Shared->Prop}{RR:Value->Addr->Result->Shared->Prop}
 (S:CompOk X N nl js osc scope)(hc:X.calm=true)(hg:∀ C fp s H,PG (cp X N scope C fp s H) tg g)(ht:∀ C fp s H,ze (cp X N scope C fp s H) ifs tt)(he:∀ C fp s H,PE (cp X N scope C fp s H) elt te)
 (I:Inv X pins σ H s)(T:Turn X.prog X.w X.K tg J fp it tn)(st:tn 0 s.heap)(f:∀ b∈fp,cC X pins H b)(w0:∃ m,W 0 m [] (σC nl js σ) H)(hW:lA J g tt te W Fin)
 (Ss:∀ (D C:Addr)(H':Hp)(s':Shared)(xs:List V)(m:Str->Option Value),Inv X pins σ (upd H' D (.lst xs)) s'->H' D=none->s'.heap.Ns C m->cC X pins (upd H' D (.lst xs)) C->Fin xs H'->RR (.ref D) C (.ok .next) s'):
 wpAny (model X.prog X.w) X.A (newList []) (λacc s₃=>wpAny (model X.prog X.w) X.A (newFunctionEnv scope X.env.globals (dA scope.names X.env) [] X.env.qual none .none (some X.env)) (λHV s₄ =>
  codeAny (model X.prog X.w) X.A (.compStart (.ListComp elt [⟨tg,iter,ifs,0⟩] scope pos) 0 (.ref it) acc { HV with scope:=relabel scope X.env }) (RR acc HV.locals) s₄) E s₃) E s:=by
 have Jo:∀ b∈fp,b < s.heap.objs.size:=λb hb=>by
  obtain ⟨o,e,_⟩:=T.obj 0 _ st b hb;exact Heap.lt_size e
 refine wpAny_newObj_type (wpAny_newFunctionEnv S.cell (by intro y hy; simp at hy) (λh₁ GU Ge=>?_) S.kind);dsimp only at GU Ge |-;generalize Lr:s.heap.push { cls:=.type "list",dict:=none,data:=.seq ([]:List Value).toArray }=H2 at GU Ge |-
 have hC:H2.objs.size=s.heap.objs.size + 1:=by rw [<-Lr,Heap.size_push]
 have IV:s.heap.objs.size≠H2.objs.size:=by rw [hC]; exact Nat.ne_of_lt (Nat.lt_succ_self _)
 have below:∀ b,b < s.heap.objs.size->b≠H2.objs.size/\b≠s.heap.objs.size:=λb hb=>⟨by rw [hC]; exact Nat.ne_of_lt (Nat.lt_succ_of_lt hb),Nat.ne_of_lt hb⟩;have old:∀ b o,s.heap.get? b=some o->h₁.get? b=some o:=λb o e=>Ge.extBut b o (below b (Heap.lt_size e)).1 (Heap.get?_push_of_some _ (Lr ▸ Heap.get?_push_of_some _ e));have Ls:h₁.get? s.heap.objs.size=some { cls:=.type "list",data:=.seq ([]:List Value).toArray 0 }:=Ge.extBut _ _ IV (Heap.get?_push_of_some _ (Lr ▸ Heap.get?_push_size _ rfl))
 have HW:s.heap.objs.size<=H2.objs.size:=by rw [hC]; exact Nat.le_succ _
 have F0:∀ y∈scope.names,y.2 = .free->∃ c,X.env.cells.lookup y.1=some c:=λy hy hf=>by
  have z:=S.free y hy hf;rw [<-S.out] at z;exact I.ok.has y.1 z
 have sub:∀ x c,(dA scope.names X.env).lookup x=some c->X.env.cells.lookup x=some c:=λx c e=>jF F0 e
 have Su:∀ x c,(dA scope.names X.env).lookup x=some c->c < s.heap.objs.size:=λx c e=>by
  obtain ⟨v,q⟩:=I.cell x c (sub x c e);exact q.lt
 have Lq:∀ b∈fp,b ∉ df X.stack:=λb hb z=>by
  rcases List.mem_cons.mp (I.stkSub b z) with q | q
  ·exact (f b hb).2.1 q
  ·exact (f b hb).2.2.1 q
 have MA:s.heap.objs.size ∉ df X.stack:=λz=>by
  rcases List.mem_cons.mp (I.stkSub _ z) with q | q
  ·exact absurd I.lt (by rw [<-q]; exact Nat.lt_irrefl _)
  ·exact I.nofs (Nat.le_refl _) q
 have Nd:s.heap.objs.size ∉ fp:=λz=>Nat.lt_irrefl _ (Jo _ z)
 have Lu:∀ {H':Hp}{ob:Obj},(∀ b∈fp,H' b=none)->∀ b∈fp,cC (cp X N scope H2.objs.size fp s H) [(s.heap.objs.size,ob)] H' b:=λ{H' ob} hn b hb =>
  ⟨hn b hb,(below b (Jo b hb)).1,Lq b hb,.inl hb,λx c e=>(f b hb).2.2.2.2.1 x c (sub x c e),λp hp z=>by
   have e:p=(s.heap.objs.size,ob):=by
    have:p∈[(s.heap.objs.size,ob)]:=hp;simpa using this
   subst e
   exact Nd (by rw [show s.heap.objs.size=b from z]; exact hb)⟩
 have Sv:∀ {H':Hp},H' s.heap.objs.size=none->cC (cp X N scope H2.objs.size fp s H) [] H' s.heap.objs.size:=λ{H'} hn =>
  ⟨hn,IV,MA,.inr (Nat.le_refl _),λx c e=>Nat.ne_of_lt (Su x c e),λp hp=>absurd (show p∈([]:List (Addr × Obj)) from hp) (by simp)⟩
 have Jp:∀ {σ':St}{H':Hp}{s':Shared}{ys:List Value}{k:Nat},Inv (cp X N scope H2.objs.size fp s H) [] σ' H' s'->H' s.heap.objs.size=none->s'.heap.get? s.heap.objs.size=some (ib ys k) →
  Inv (cp X N scope H2.objs.size fp s H) [(s.heap.objs.size,ib ys k)] σ' H' s':=λ{σ' H' s' ys k} I' hn hl=>I'.pins_of λp hp=>by
  have e:p=(s.heap.objs.size,ib ys k):=by simpa using hp
  subst e;exact ⟨hl,hn,IV,MA,λv z=>by cases z⟩
 have loop:∀ s₃:Shared,s₃={ s with heap:=h₁,toks:=s.toks + ([]:List (Str × Value)).length } →
  codeAny (model X.prog X.w) X.A (.compLoop (.ListComp elt [⟨tg,iter,ifs,0⟩] scope pos) 0 (.ref it) (.ref s.heap.objs.size) (compEnvC scope (dA scope.names X.env) H2.objs.size X.env))
   (RR (.ref s.heap.objs.size) H2.objs.size) s₃:=by
  rintro s₃ rfl;obtain ⟨m0,w0⟩:=w0;have I0:Inv (cp X N scope H2.objs.size fp s H) [] (σC nl js σ) H { s with heap:=h₁,toks:=s.toks + ([]:List (Str × Value)).length }:=lH S I f Jo HW old GU
  refine nG (λn s'=>∃ i σ' H' xs ys k,Inv (cp X N scope H2.objs.size fp s H) [(s.heap.objs.size,ib ys k)] σ' H' s'/\tn i s'.heap/\(∀ b∈fp,H' b=none)/\aK xs ys/\W i n xs σ' H') ?_ m0
   ⟨0,σC nl js σ,H,[],[],0,Jp I0 (I.hok.fresh (Nat.le_refl _)) Ls,T.keep _ _ _ st λb _ o e=>old b o e,λb hb=>(f b hb).1,.nil,w0⟩
  rintro n s' ⟨i,σ',H',xs,ys,k,I',FV,Nf,rv,w'⟩;obtain ⟨hz,hw⟩:=hW i n xs σ' H' w'
  rcases hw with ⟨stop,fin⟩ | ⟨go,step⟩
  ·refine wpAny_mono (T.done (cp X N scope H2.objs.size fp s H) rfl rfl rfl hc i _ s' σ' H' (λ_ _=>False) I' (Lu Nf) FV stop) (λr s1 ⟨hr,I1⟩=>?_) λ_ _ z=>z;subst hr;obtain ⟨p1,p2,_⟩:=I1.pin (s.heap.objs.size,ib ys k) (by show _∈([]:List (Addr × Obj))++[_]; simp);have u1:Un (df X.stack) fp H H' s.heap s1.heap:=I1.base
   have u2:Un (df X.stack) fp H (upd H' s.heap.objs.size (.lst xs)) s.heap s1.heap:=⟨u1.keep,u1.slot,λb o e n hx=>by rw [ao (Nat.ne_of_lt (Heap.lt_size e))]; exact u1.free b o e n hx,u1.there,
    λb zs e=>by rw [ao (au (u1.tups b zs e) p2)]; exact u1.tups b zs e,λb o zs e=>by rw [ao (au (u1.frzs b o zs e) p2)]; exact u1.frzs b o zs e,λb ps e=>by
     obtain ⟨mo,q⟩:=u1.tbls b ps e
     exact ⟨mo,by rw [ao (au q p2)]; exact q⟩⟩
   have hk:eG X.prog X.w (upd H' s.heap.objs.size (.lst xs)) s1.heap:=da I1.hok p2 ⟨Nat.le_of_lt hz,ys,k,rv,p1⟩;have I3:Inv X pins σ (upd H' s.heap.objs.size (.lst xs)) s1:=I.call' I1.os u2 hk I1.bare λb hb=>⟨(f b hb).2.2.2.1,(f b hb).2.1,(f b hb).2.2.2.2.1,(f b hb).2.2.2.2.2⟩;obtain ⟨mm,Sw,_⟩:=I1.loc
   have Sx:upd H' s.heap.objs.size (.lst xs) H2.objs.size=none:=by rw [ao (Ne.symm IV)]; exact I1.free
   exact Ss _ _ H' s1 xs mm I3 p2 Sw (I.fpOk HW Sx) fin
  ·refine wpAny_mono (T.item (cp X N scope H2.objs.size fp s H) rfl rfl rfl hc i _ s' σ' H' (λ_ _=>False) I' (Lu Nf) FV go) (λr s1 ⟨u,hr,h4⟩=>?_) λ_ _ z=>z;subst hr;refine wpAny_mono h4 (λ_ s2 ⟨x,Ng,I2,r2,y2,GS,Sy⟩=>?_) λ_ _ z=>z;have Sz:=I2.pinned (Lu Sy) (T.obj _ _ GS);refine wpAny_mono (hg _ _ _ _ _ s2 σ' Ng x u _ Sz r2 (step x Ng y2)) (λ_ s3 ⟨σ3,H3,I3,q3⟩=>?_) λ_ _ z=>z;refine wpAny_mono (ht _ _ _ _ _ s3 σ3 H3 _ I3 q3) (λok s4 ⟨H4,I4,q4⟩=>?_) λ_ _ z=>z
   have back:∀ {s5:Shared}{H5:Hp},Inv (cp X N scope H2.objs.size fp s H) ([(s.heap.objs.size,ib ys k)]++c7 fp s2.heap) σ3 H5 s5->tn (i + 1) s5.heap/\∀ b∈fp,H5 b=none:=λ{s5 H5} I5 =>
    ⟨T.keep _ _ _ GS λb hb o e=>(I5.pin (b,o) (List.mem_append_right _ (List.mem_append_right _ (cu hb e)))).1,λb hb=>by
     obtain ⟨o,e,d⟩:=T.obj _ _ GS b hb
     exact (I5.pin (b,o) (List.mem_append_right _ (List.mem_append_right _ (cu hb e)))).2.1⟩
   cases ok with
   | false =>
     rw [if_neg Bool.false_ne_true] at q4 |-;obtain ⟨m',hm,w4⟩:=q4;exact ⟨m',hm,i + 1,σ3,H4,xs,ys,k,I4.unpinned,(back I4).1,(back I4).2,rv,w4⟩
   | true =>
     rw [if_pos rfl] at q4 |-;refine wpAny_mono (he _ _ _ _ _ s4 σ3 H4 _ I4 q4) (λv s5 ⟨y,H5,I5,r5,m',hm,w5⟩=>?_) λ_ _ z=>z;obtain ⟨p1,p2,_⟩:=I5.pin (s.heap.objs.size,ib ys k) (List.mem_append_right _ (List.mem_append_left _ (by simp)));obtain ⟨M1,Sg⟩:=back I5;refine append_at (its:=ys.toArray) p1 (λh' sb hD=>?_) (by rw [List.size_toArray,<-rv.length]; exact Nat.le_of_lt hz);have I6:Inv (cp X N scope H2.objs.size fp s H) [] σ3 H5 { s5 with heap:=h' }:=cA (I5.pins_of (pins':=[]) λp hp=>absurd hp (by simp)) (Sv p2) sb;refine ⟨m',hm,i + 1,σ3,H5,xs++[y],ys++[v],k + 1,Jp I6 p2 ?_,T.keep _ _ _ M1 λb hb o e=>(sb.2 b λz=>Nd (z ▸ hb)).trans e,Sg,rv.append (.cons r5 .nil),w5⟩;rw [hD];show some _=some (ib (ys++[v]) (k + 1));rw [ib,<-List.push_toArray]
 exact codeAny_compStart_list (loop _ rfl) (T.self X.A 0 _ _ _ (T.keep _ _ _ st λb _ o e=>old b o e) (loop _ rfl))
noncomputable def AI (wi:TI)(g:TG)(tt:TT)(te:TE)(nl:Nat)(js:List Nat):TE:=λσ H Q=>wi σ H λJ H1 =>
 ∃ W:Nat->Nat->List V->St->Hp->Prop,(∃ m,W 0 m [] (σC nl js σ) H1)/\lA J g tt te W λxs H'=>∀ D,H' D=none->Q (.ref D) (upd H' D (.lst xs))
theorem gy {pins:List (Addr × Obj)}{σ:St}{H:Hp}{s:Shared}(S:CompOk X N nl js osc scope)(I:Inv X pins σ H s):closureFor scope X.env=pure (dA scope.names X.env):=gc λy hy hf=>by
 have z:=S.free y hy hf;rw [<-S.out] at z;exact I.ok.has y.1 z
theorem eX {wi:TI}{g:TG}{tt:TT}{te:TE}(S:CompOk X N nl js osc scope)(hc:X.calm=true)(hi:PI X tg iter wi)(hg:∀ C fp s H,PG (cp X N scope C fp s H) tg g)(ht:∀ C fp s H,ze (cp X N scope C fp s H) ifs tt)
 (he:∀ C fp s H,PE (cp X N scope C fp s H) elt te)(hs:∀ x,foldedSetIterable iter X.env x=pure x:=by intro _; rfl):
 PE X (.ListComp elt [⟨tg,iter,ifs,0⟩] scope pos) (AI wi g tt te nl js):=by
 intro pins s σ H Q I h;rw [eval_ListComp];refine wpAny_comprehension_free (use:=none) rfl hs (gy S I) S.kind S.names (bR (hi pins s σ H _ I h) λv s1 h1=>bR h1 λMv s2 h2=>?_);obtain ⟨it,fp,tn,J,H2,e,I2,T,GS,f2,W,w0,hW⟩:=h2;subst e;refine jB (RR:=λacc C=>compPost (model X.prog X.w) X.A X.xe none (EP X pins σ Q) acc C) S hc hg ht he I2 T GS f2 w0 hW ?_;intro D C H' s' xs m I3 hD hn fC fin;exact ⟨m,hn,λh' sb=>⟨.ref D,_,cA I3 fC sb,rfl,fin D hD⟩⟩
theorem tE {i:Nat}{y:Str}{py Nh:Pos}{wi:TI}{g:TG}{tt:TT}{te:TE}(S:CompOk X N nl js osc scope)(hc:X.calm=true)(hN:X.N.Nodup)(hy:X.N[i]?=some y)(hl:Df X.env.scope y)(hi:PI X tg iter wi)
 (hg:∀ C fp s H,PG (cp X N scope C fp s H) tg g)(ht:∀ C fp s H,ze (cp X N scope C fp s H) ifs tt)(he:∀ C fp s H,PE (cp X N scope C fp s H) elt te)
 (YM:swapsWith (.ListComp elt [⟨tg,iter,ifs,0⟩] scope pos) (some (.Name y py)) Nh.line X.env=pure true)(hs:∀ x,foldedSetIterable iter X.env x=pure x:=by intro _; rfl)
 (hf:X.fn y=true\/X.env.scope.names.lookup y=some .local:=by first | exact .inl rfl | exact .inr rfl | assumption):
 PS X (.Assign [.Name y py] (.ListComp elt [⟨tg,iter,ifs,0⟩] scope pos) Nh) (uu (AI wi g tt te nl js) (bO i)):=by
 intro pins s σ H D I h;rw [exec_Assign_Name_used _ _ _ _ YM];refine wpAny_bind (wpAny_standAt (wpAny_bind ?_));show wpAny _ X.A (do let _ <-comprehension (.ListComp elt [⟨tg,iter,ifs,0⟩] scope pos) scope X.env _ (newList []) false (eval iter X.env) (some (assign (.Name y py) X.env))) _ _ s
 refine wpAny_bind (wpAny_mono (wpAny_comprehension_free (use:=some (assign (.Name y py) X.env)) (Q:=λ_ s'=>SP X pins D .next s') rfl hs (gy S I) S.kind S.names
  (bR (hi pins s σ H _ I h) λv s1 h1=>bR h1 λMv s2 h2=>?_)) (λ_ s' hq=>wpAny_pure (wpAny_pure hq)) λ_ _ e=>e)
 obtain ⟨it,fp,tn,J,H2,e,I2,T,GS,f2,W,w0,hW⟩:=h2;subst e;refine jB (RR:=λacc C=>compPost (model X.prog X.w) X.A X.xe (some (assign (.Name y py) X.env)) (λ_ s'=>SP X pins D .next s') acc C) S hc hg ht he I2 T GS f2 w0 hW ?_;intro Dd C H' s' xs m I3 hD hn fC fin;show wpAny _ X.A (assign (.Name y py) X.env (.ref Dd)) _ _ _;refine wpAny_assign_Name (lJ I3 hN hy hl (show aC (.ref Dd) (.ref Dd) from rfl) (λs4 I4 ⟨a,sb,ha⟩=>?_) hf);refine ⟨m,hn.sameBut sb ?_,λh' JL=>⟨_,_,cA I4 fC JL,fin Dd hD⟩⟩
 rcases ha with z | z
 ·rw [z]; exact fC.2.1
 ·exact λq=>fC.2.2.2.2.1 _ _ z q.symm
end
open PySem.W
noncomputable def EX (h B:Heap)(e:Addr)(cls a0 fl:Value)(d:Option Addr):Prop :=
 ∃ (o:Obj)(vs:Array Value)(T:Addr)(oT:Obj)(ts:Array Value),h.get? e=some o/\o.dict=d/\(o.cls=cls/\vs[0]?=some a0)/\o.data = .fields vs/\vs[1]?=some (.ref T)/\B.get? T=none/\T≠e/\h.get? T=some oT/\oT.data = .fields ts/\ts[3]?=some fl
structure FlyD (B:Heap)(l:List Env)(e:Addr)(cls a0 fl:Value)(d:Option Addr)(h:Heap):Prop where
 st:B.StaysIn h
 new:B.get? e=none
 fr:h.FunFrames B l
 tr:EX h B e cls a0 fl d
section
variable {M:Model}{A:Around}{E:Value->Shared->Prop}{s:Shared}{B:Heap}{env:Env}{outer:List Env}{L e:Addr}{cls a0:Value}{d:Option Addr}{Q:Unit->Shared->Prop}
theorem rZ {o:Obj}{vs:Array Value}{hd:Value}{nx:Bool}(Hw:A.frames=some (env :: outer))(fr:s.heap.FunFrames B (env :: outer))(hf:env.frame=some L)(st:B.StaysIn s.heap)(new:B.get? e=none)
 (he:s.heap.get? e=some o)(GB:o.dict=d)(hc:o.cls=cls)(hv:o.data = .fields vs)(h1:1 < vs.size)(h0:vs[0]?=some a0)
 (h:∀ h',FlyD B (env :: outer) e cls a0 (rawInt L) d h'->s.heap.UpToSlots h'->Q () { s with heap:=h' }):
 wpAny M A (do let a <-frameOf env; let pl <-entryPlaceOf L nx; let b <-EntryCells.newEntry hd a .none (rawInt L) .none pl; setField (.ref e) 1 b) Q E s:=by
 have nf:e ∉ (env :: outer).filterMap (·.frame):=λm=>by
  obtain ⟨_,o',FZ,q⟩:=fr.mem m;rw [he] at FZ; cases FZ; exact q vs hv
 refine wpAny_bind (wpAny_frameOf_fun Hw fr hf λg sl=>wpAny_bind (wpAny_entryPlaceOf λpl Gz=>?_));unfold EntryCells.newEntry newFields;refine wpAny_bind (wpAny_newObj_type ?_ (Gz.sizeOk5 _ _ _ _ _));have e1:g.get? e=some o:=(sl.2.1 e nf).trans he;have Ws:B.StaysIn g:=λb ob q=>(sl.2.1 b λm=>by rw [(fr.mem m).1] at q; cases q).trans (st b ob q);have ne:g.objs.size≠e:=Nat.ne_of_gt (Heap.lt_size e1);have dv:=Obj.data_mapFields hv (·.setIfInBounds 1 (Value.ref g.objs.size))
 have kp:∀ (oT:Obj) b ob,b≠e->g.get? b=some ob->((g.push oT).update e (Obj.mapFields (·.setIfInBounds 1 (Value.ref g.objs.size)))).get? b=some ob:=λoT b ob hb q =>
  (Heap.get?_update_other _ _ (Ne.symm hb)).trans (Heap.get?_push_of_some _ q)
 have nr:∀ b ob,s.heap.get? b=some ob->(∀ ws,ob.data ≠ .fields ws)->b≠e:=λb ob q hn z=>by rw [z,he] at q; cases q; exact hn vs hv
 refine wpAny_setField (Heap.get?_push_of_some _ e1) hv h1 (h _ ⟨λb ob q=>kp _ b ob (λz=>by rw [z,new] at q; cases q) (Ws b ob q),new,fr.of_keeps λb ob q hn=>?_,?_⟩ λb ob q hn=>?_)
 ·obtain ⟨z,q1⟩:=sl.2.2 b ob q;exact ⟨_,kp _ b _ (nr b ob q hn) q1,rfl⟩
 ·refine ⟨_,_,g.objs.size,_,_,Heap.get?_update_self _ (Heap.get?_push_of_some _ e1) (Obj.isFreed_of_fields dv),?_,⟨(Obj.cls_mapFields _ _).trans hc,by rw [Array.getElem?_setIfInBounds_ne (by decide)]; exact h0⟩,dv,by simp [h1],Ws.fresh,ne,
   (Heap.get?_update_other _ _ (Ne.symm ne)).trans (Heap.get?_push_size g rfl),rfl,by first | (simp; done) | (rcases Gz with rfl | ⟨_,_,_,_,_,_,_,rfl⟩ <;> simp)⟩
  rw [<-GB]
  cases o
  dsimp only at hv;subst hv;rfl
 ·obtain ⟨z,q1⟩:=sl.2.2 b ob q;exact ⟨z,kp _ b _ (nr b ob q hn) q1⟩
theorem wK (Hw:A.frames=some (env :: outer))(hf:env.frame=some L)(x:FlyD B (env :: outer) e cls a0 .none d s.heap)
 (h:∀ h',FlyD B (env :: outer) e cls a0 (rawInt L) d h'->s.heap.UpToSlots h'->Q () { s with heap:=h' }):wpAny M A (noteFrame (.ref e) env) Q E s:=by
 obtain ⟨o,vs,T,oT,ts,he,GB,⟨hc,h0⟩,hv,h1,nT,Te,hT,JM,h3⟩:=x.tr;unfold noteFrame;simp only [hf];refine wpAny_bind (wpAny_field he hv h1 ?_);rw [if_pos (by simp)];refine wpAny_bind (wpAny_field hT JM h3 ?_);rw [if_neg (by simp [rawInt])];refine wpAny_bind (wpAny_setField hT JM (Array.getElem?_eq_some_iff.mp h3).1 ?_);have ot:∀ b,b≠T->(s.heap.update T (Obj.mapFields (·.setIfInBounds 3 Value.none))).get? b=s.heap.get? b:=λb hb=>Heap.get?_update_other _ _ (Ne.symm hb)
 have nr:∀ b ob,s.heap.get? b=some ob->(∀ ws,ob.data ≠ .fields ws)->b≠T:=λb ob q hn z=>by rw [z,hT] at q; cases q; exact hn ts JM
 refine rZ (s:={ s with heap:=s.heap.update T (Obj.mapFields (·.setIfInBounds 3 Value.none)) }) Hw (x.fr.of_keeps λb ob q hn=>⟨ob,(ot b (nr b ob q hn)).trans q,rfl⟩) hf (λb ob q=>(ot b λz=>by rw [z,nT] at q; cases q).trans (x.st b ob q)) x.new
  ((ot e (Ne.symm Te)).trans he) GB hc hv (Array.getElem?_eq_some_iff.mp h1).1 h0 λh' y up=>h h' y λb ob q hn=>up b ob ((ot b (nr b ob q hn)).trans q) hn
theorem xV {o:Obj}{vs:Array Value}(Hw:A.frames=some (env :: outer))(fr:s.heap.FunFrames B (env :: outer))(hf:env.frame=some L)(st:B.StaysIn s.heap)(new:B.get? e=none)
 (he:s.heap.get? e=some o)(GB:o.dict=d)(hc:o.cls=cls)(hv:o.data = .fields vs)(h1:vs[1]?=some .none)(h0:vs[0]?=some a0)
 (h:∀ h',FlyD B (env :: outer) e cls a0 (rawInt L) d h'->s.heap.UpToSlots h'->Q () { s with heap:=h' }):wpAny M A (noteFrame (.ref e) env) Q E s:=by
 unfold noteFrame;simp only [hf];refine wpAny_bind (wpAny_field he hv h1 ?_);rw [if_neg (by decide)];exact rZ Hw fr hf st new he GB hc hv (Array.getElem?_eq_some_iff.mp h1).1 h0 h
theorem gV {l:List Env}{fl:Value}(x:FlyD B l e cls a0 fl d s.heap)(h:∀ h',FlyD B l e cls a0 .none d h'->s.heap.UpToSlots h'->Q () { s with heap:=h' }):wpAny M A (setFlight (.ref e) none) Q E s:=by
 obtain ⟨o,vs,T,oT,ts,he,GB,hc,hv,h1,nT,Te,hT,JM,h3⟩:=x.tr;have z3:3 < ts.size:=(Array.getElem?_eq_some_iff.mp h3).1;have ot:∀ b,b≠T->(s.heap.update T (Obj.mapFields (·.setIfInBounds 3 Value.none))).get? b=s.heap.get? b:=λb hb=>Heap.get?_update_other _ _ (Ne.symm hb)
 have nr:∀ b ob,s.heap.get? b=some ob->(∀ ws,ob.data ≠ .fields ws)->b≠T:=λb ob q hn z=>by rw [z,hT] at q; cases q; exact hn ts JM
 unfold setFlight;refine wpAny_bind (wpAny_field he hv h1 ?_);rw [if_pos (by simp)];refine wpAny_setField hT JM z3 (h _ ⟨λb ob q=>(ot b λz=>by rw [z,nT] at q; cases q).trans (x.st b ob q),x.new,x.fr.of_keeps λb ob q hn=>⟨ob,(ot b (nr b ob q hn)).trans q,rfl⟩,?_⟩ λb ob q hn=>⟨ob.slots,(ot b (nr b ob q hn)).trans q⟩);exact ⟨o,vs,T,_,_,(ot e (Ne.symm Te)).trans he,GB,hc,hv,h1,nT,Te,Heap.get?_update_self _ hT (Obj.isFreed_of_fields (Obj.data_mapFields JM _)),Obj.data_mapFields JM _,by simp [z3]⟩
theorem FlyD.out {h:Heap}{fl:Value}(x:FlyD B (env :: outer) e cls a0 fl d h):FlyD B outer e cls a0 fl d h:=⟨x.st,x.new,x.fr.2.2,x.tr⟩
theorem yR (Hw:A.frames=some (env :: outer))(hf:env.frame=some L)(x:FlyD B (env :: outer) e cls a0 .none d s.heap)
 (h:∀ h',FlyD B outer e cls a0 .none d h'->s.heap.UpToSlots h'->Q () { s with heap:=h' }):wpAny M A (leaving env (.ref e)) Q E s:=by
 unfold leaving;exact wpAny_bind (wK Hw hf x λg y up=>gV (s:={ s with heap:=g }) y λg2 y2 SA=>h g2 y2.out (up.trans SA))
theorem ux {o:Obj}{vs:Array Value}(Hw:A.frames=some (env :: outer))(fr:s.heap.FunFrames B (env :: outer))(hf:env.frame=some L)(st:B.StaysIn s.heap)(new:B.get? e=none)
 (he:s.heap.get? e=some o)(GB:o.dict=d)(hc:o.cls=cls)(hv:o.data = .fields vs)(h1:vs[1]?=some .none)(h0:vs[0]?=some a0)
 (h:∀ h',FlyD B outer e cls a0 .none d h'->s.heap.UpToSlots h'->Q () { s with heap:=h' }):wpAny M A (leaving env (.ref e)) Q E s:=by
 unfold leaving;exact wpAny_bind (xV Hw fr hf st new he GB hc hv h1 h0 λg y up=>gV (s:={ s with heap:=g }) y λg2 y2 SA=>h g2 y2.out (up.trans SA))
end
theorem ba.there {P:Program}{w:World}{H:Hp}{h:Heap}{a:Addr}{o:HO}(x:ba P w H h a o):∃ ob,h.get? a=some ob:=by
 cases o with
 | lst xs=>obtain ⟨_,_,_,_,e⟩:=x; exact ⟨_,e⟩
 | tup xs=>obtain ⟨_,_,_,ob,e,_⟩:=x; exact ⟨_,e⟩
 | dK E9=>obtain ⟨_,_,_,_,o,_,_,e,_⟩:=x; exact ⟨_,e⟩
 | dT E9=>obtain ⟨_,_,_,_,o,_,_,e,_⟩:=x; exact ⟨_,e⟩
 | set S n=>obtain ⟨o,_,_,_,e,_⟩:=x; exact ⟨_,e⟩
 | ins C dx fs=>obtain ⟨_,_,_,e,_⟩:=x; exact ⟨_,e⟩
 | own y=>obtain ⟨_,e⟩:=x; exact ⟨_,e⟩
 | xd fs=>obtain ⟨_,⟨_,_,_,e,_⟩,_⟩:=x; exact ⟨_,e⟩
 | rng lo hi=>obtain ⟨_,_,_,e⟩:=x; exact ⟨_,e⟩
 | frz ob u=>obtain ⟨e,_⟩:=x; exact ⟨_,e⟩
 | tbl ps=>exact ⟨_,(show h.get? a=some _ from x)⟩
 | met f y=>exact ⟨_,(show h.get? a=some _ from x)⟩
 | ext φ=>obtain ⟨_,⟨_,e⟩,_⟩:=x; exact ⟨_,e⟩
structure Flies (P:Program)(w:World)(l:List Env)(H₀:Hp)(h₀:Heap)(a:Addr)(cls:Value)(H:Hp)(h:Heap)(B:Heap)(a0:Value)(d:Option Addr):Prop where
 fly:FlyD B l a cls a0 .none d h
 un:Un (df l) [] H₀ H h₀ h
 keep:∀ b o,h₀.get? b=some o->H₀ b=none->b ∉ df l->B.get? b=some o
 there:∀ b o,h₀.get? b=some o->b ∉ df l->∃ o',B.get? b=some o'
 hok:eG P w H B
 new:H a=none
noncomputable def aV (P:Program)(w:World):CXT:=λouter H₀ s₀ E e s'=>∃ (a:Addr)(cls a0:Value)(B:Heap)(d:Option Addr)(H:Hp),e = .ref a/\s'.os=s₀.os/\AllBare s'.gens/\Flies P w outer H₀ s₀.heap a cls H s'.heap B a0 d/\E cls d H
section
variable {X:Cx}{pins:List (Addr × Obj)}{σ:St}{H H':Hp}{s s':Shared}{P:Program}{w:World}
theorem cI {h base:Heap}{l:List Env}(F:h.FunFrames base l){b:Addr}{o:Obj}(hb:b∈df l)(e:h.get? b=some o):∀ vs,o.data ≠ .fields vs:=by
 obtain ⟨_,o',e',d⟩:=F.mem hb;rw [e] at e'
 cases e'
 exact d
theorem rC {outer:List Env}{h' GV B:Heap}{e t:Addr}{cls:Value}{args:List Value}{d:Option Addr}(I:Inv X pins σ H s)(hex:X.ex=[])(HJ:X.stack=X.env :: X.outer)(hm:Heap.MadeExcOf s.heap h' e cls args)
 (hB:B=PySem.W.hideAll s.heap (df X.stack))(hf:FlyD B X.outer e cls (.ref t) .none d GV)(Lw:h'.UpToSlots GV):Flies X.prog X.w X.outer X.H₀ X.s₀.heap e cls H GV B (.ref t) d:=by
 subst hB;have st:=hf.st;have Ni:∀ b o,s.heap.get? b=some o->b ∉ df X.stack->(PySem.W.hideAll s.heap (df X.stack)).get? b=some o:=λb o e n=>PySem.W.hideAll_get _ e n
 have old:∀ b o,X.s₀.heap.get? b=some o->b ∉ df X.outer->b ∉ df X.stack:=λb o e n z=>by
  rcases List.mem_cons.mp (I.stkSub b z) with q | q
  ·exact absurd (Nat.lt_of_lt_of_le (Heap.lt_size e) I.ok.above) (by rw [q]; exact Nat.lt_irrefl _)
  ·exact n q
 have base:Un (df X.outer) [] X.H₀ H X.s₀.heap s.heap:=by
  have z:=I.base;rw [hex] at z;exact z
 refine ⟨hf,⟨λb o e n hb _=>st b o (Ni b o (base.keep b o e n hb (by simp)) (old b o e hb)),λb o e n hb _=>?_,base.free,λb o e _=>?_,base.tups,base.frzs,base.tbls⟩,λb o e n hb=>Ni b o (base.keep b o e n hb (by simp)) (old b o e hb),λb o e hb=>?_,λb u e=>?_,?_⟩
 ·obtain ⟨sl,e1⟩:=base.slot b o e n hb (by simp);obtain ⟨Hu,e2⟩:=Lw b _ (hm.keeps b _ e1) (cI I.funs hb e1);exact ⟨Hu,e2⟩
 ·obtain ⟨o',e1⟩:=base.there b o e (by simp)
  by_cases hb:b∈df X.outer
  ·obtain ⟨Hu,e2⟩:=Lw b _ (hm.keeps b _ e1) (cI I.funs hb e1);exact ⟨_,e2⟩
  ·exact ⟨o',st b o' (Ni b o' e1 (old b o e hb))⟩
 ·obtain ⟨o',e1⟩:=base.there b o e (by simp);exact ⟨o',Ni b o' e1 (old b o e hb)⟩
 ·exact (I.hok b u e).stay (λc v hc q=>Ni c v q λz=>by
   have n:=I.stkFree c z
   rcases hc with hc | hc
   ·rw [hc,e] at n; cases n
   ·rw [n] at hc; cases hc) (λ_ q=>q) λ_ _ q=>q
 ·cases q:H e with
  | none=>rfl
  | some u =>
    obtain ⟨ob,e1⟩:=(I.hok e u q).there;rw [hm.new] at e1
    cases e1
theorem wy {GV B:Heap}{a:Addr}{cls a0:Value}{d:Option Addr}(I:Inv X pins σ H s)(hex:X.ex=[])(F:Flies X.prog X.w X.stack H s.heap a cls H' s'.heap B a0 d)
 (hf:FlyD B X.outer a cls a0 .none d GV)(Lw:s'.heap.UpToSlots GV):Flies X.prog X.w X.outer X.H₀ X.s₀.heap a cls H' GV B a0 d:=by
 have st:=hf.st
 have sub:∀ b,b∈df X.outer->b∈df X.stack:=λb hb=>by
  rcases I.ok.stk with z | ⟨z,Hw⟩
  ·rw [z]; exact hb
  ·rw [z]; unfold df; rw [List.filterMap_cons,Hw]; exact List.mem_cons_of_mem _ hb
 have old:∀ b o,X.s₀.heap.get? b=some o->b ∉ df X.outer->b ∉ df X.stack:=λb o e n z=>by
  rcases List.mem_cons.mp (I.stkSub b z) with q | q
  ·exact absurd (Nat.lt_of_lt_of_le (Heap.lt_size e) I.ok.above) (by rw [q]; exact Nat.lt_irrefl _)
  ·exact n q
 have base:Un (df X.outer) [] X.H₀ H X.s₀.heap s.heap:=by
  have z:=I.base;rw [hex] at z;exact z
 have kB:∀ b o,X.s₀.heap.get? b=some o->X.H₀ b=none->b ∉ df X.outer->B.get? b=some o:=λb o e n hb =>
  F.keep b o (base.keep b o e n hb (by simp)) (base.free b o e n (by simp)) (old b o e hb)
 have tB:∀ b o,X.s₀.heap.get? b=some o->b ∉ df X.outer->∃ o',B.get? b=some o':=λb o e hb=>by
  obtain ⟨o',e1⟩:=base.there b o e (by simp);exact F.there b o' e1 (old b o e hb)
 have HR:∀ b o,s.heap.get? b=some o->H b=none->b∈df X.outer->∃ sl,GV.get? b=some { o with slots:=sl }:=λb o e n hb=>by
  obtain ⟨sl,e1⟩:=F.un.slot b o e n (sub b hb) (by simp);obtain ⟨Hu,e2⟩:=Lw b _ e1 (λvs q=>cI I.funs hb e vs q);exact ⟨Hu,e2⟩
 refine ⟨hf,⟨λb o e n hb _=>st b o (kB b o e n hb),λb o e n hb _=>?_,λb o e n _=>?_,λb o e _=>?_,λb xs e=>F.un.tups b xs (base.tups b xs e),λb o xs e=>F.un.frzs b o xs (base.frzs b o xs e),λb ps e=>?_⟩,kB,tB,F.hok,F.new⟩
 ·obtain ⟨sl,e1⟩:=base.slot b o e n hb (by simp);obtain ⟨Hu,e2⟩:=HR b _ e1 (base.free b o e n (by simp)) hb;exact ⟨Hu,e2⟩
 ·obtain ⟨o',e1⟩:=base.there b o e (by simp);exact F.un.free b o' e1 (base.free b o e n (by simp)) (by simp)
 ·by_cases hb:b∈df X.outer
  ·obtain ⟨o',e1⟩:=base.there b o e (by simp);have n:H b=none:=I.stkFree b (sub b hb);obtain ⟨sl,e2⟩:=HR b o' e1 n hb;exact ⟨_,e2⟩
  ·obtain ⟨o',e1⟩:=tB b o e hb;exact ⟨o',st b o' e1⟩
 ·obtain ⟨m1,e1⟩:=base.tbls b ps e;obtain ⟨m2,e2⟩:=F.un.tbls b _ e1;exact ⟨m1++m2,by rw [e2,Array.append_assoc]⟩
theorem kn {GV B:Heap}{a:Addr}{cls a0 fl:Value}{d:Option Addr}{tk:Nat}(I:Inv X pins σ H s)(ho:s'.os=s.os)(hg:AllBare s'.gens)(F:Flies X.prog X.w X.stack H s.heap a cls H' s'.heap B a0 d)
 (hf:FlyD B X.stack a cls a0 fl d GV)(Lw:s'.heap.UpToSlots GV):Inv X pins σ H' { s' with heap:=GV,toks:=tk }:=by
 have st:=hf.st;refine I.call' (s':={ s' with heap:=GV,toks:=tk }) (ch:=[]) ho ⟨λb o e n hb _=>st b o (F.keep b o e n hb),λb o e n hb _=>?_,F.un.free,λb o e _=>?_,F.un.tups,F.un.frzs,F.un.tbls⟩ (F.hok.kept st) hg λb z=>absurd z (by simp)
 ·obtain ⟨sl,e1⟩:=F.un.slot b o e n hb (by simp);obtain ⟨Hu,e2⟩:=Lw b _ e1 (λvs q=>cI I.stack hb e vs q);exact ⟨Hu,e2⟩
 ·by_cases hb:b∈df X.stack
  ·obtain ⟨sl,e1⟩:=F.un.slot b o e (I.stkFree b hb) hb (by simp);obtain ⟨Hu,e2⟩:=Lw b _ e1 (λvs q=>cI I.stack hb e vs q);exact ⟨_,e2⟩
  ·obtain ⟨o',e1⟩:=F.there b o e hb;exact ⟨o',st b o' e1⟩
end
theorem zQ {K:PySem.W.Frag}{h:Heap}{C:Addr}{Nj:List Value}{newId:String}(X:K.In h)(q:PySem.W.excIn K C Nj newId=true):
 ∃ bm N nm qn bs hd sn sub ab col dd k0 k1 k2 k3 k5 mN,h.get? C=some (excClassObj nm qn C N bs bm hd sn sub ab col dd k0 k1 k2 k3 k5 newId)/\h.Ns N mN/\mN "__init__"=none/\OwnTail h Nj bm:=by
 unfold PySem.W.excIn at q
 split at q
 ·rename_i dd cd sl ho
  split at q
  ·rename_i C' bm k0 k1 k2 k3 n k5 hm hs
   simp only [Bool.and_eq_true,beq_iff_eq,Bool.not_eq_true'] at q;obtain ⟨⟨⟨⟨⟨rfl,rfl⟩,Nk⟩,ht⟩,hok⟩,Rq⟩:=q;obtain ⟨nm,bs,mro,ns,qn,hd,sn,sub,ab,col,del⟩:=cd;dsimp only at hm Nk hok Rq;subst hm Nk
   have YN:sl = #[k0,k1,k2,k3,some (.builtin n),k5]:=by
    obtain ⟨l⟩:=sl;simp only at hs;rw [hs]
   subst YN;exact ⟨bm,ns,nm,qn,bs,hd,sn,sub,ab,col,dd,k0,k1,k2,k3,k5,_,X _ _ ho,.of_isNs (PySem.W.isNs_of_in X hok),PySem.W.nsMap_none_of_in X hok Rq,PySem.W.tail_of_in X ht⟩
  ·cases q
 ·cases q
noncomputable def wx (X:Cx)(E:St->XK):Prop:=∀ (pins:List (Addr × Obj))(σ:St)(H:Hp)(s:Shared)(h':Heap)(e:Addr)(cls:Value)(args:List Value),Inv X pins σ H s->Heap.MadeExcOf s.heap h' e cls args->E σ cls none H->X.xe (.ref e) { s with heap:=h' }
noncomputable def Bk (C:Addr)(E:St->XK)(t:TA):TS:=λ_ σ H=>t σ H λvs H1=>vs.length<=sizeLine/\E σ (.ref C) none H1
section
variable {X:Cx}{E:St->XK}{x:Str}{C:Addr}{B newId Lx:String}{Nj:List Value}{np Fj pos:Pos}{e:Expr}{es:List Expr}{t:TA}
theorem gP (FB:ExcBaseFacts B newId Lx Nj)(q:PySem.W.excIn X.K C Nj newId=true)(hc:X.calm=true)(hR:wx X E)(hg:Gl X x)(hm:X.mg x=some (.ref C))(ha:PA X (e :: es) t)
 (he:starEach (e :: es) X.env=(false,eval e X.env):: starEach es X.env:=by rfl)(Gz:(backTo Fj (starEach es X.env)).any (·.1)=false:=by rfl)(hd:(x == ("__debug__":Str))=false:=by decide):
 PS X (.Raise (some (.Call (.Name x np) (e :: es) [] Fj)) none pos) (Bk C E t):=by
 intro pins s σ H D I h;obtain ⟨bm,N,nm,qn,bs,hdct,sn,sub,ab,col,dd,k0,k1,k2,k3,k5,mN,hC,hN,Rq,T⟩:=zQ I.ok.mod.kin q
 refine wpAny_Raise_call_subT (C:=C) (nm:=nm) (q:=qn) (N:=N) (bs:=bs) (bm:=bm) (hdct:=hdct) (sn:=sn) (sub:=sub) (ab:=ab) (col:=col) (dd:=dd) (k0:=k0) (k1:=k1) (k2:=k2) (k3:=k3) (k5:=k5)
  FB (mN:=mN) (T.hasType FB.hasBase) (I.ok.hd hc) (by rw [he]; show (false || (backTo Fj (starEach es X.env)).any (·.1))=false; rw [Gz]; rfl) Rq (fj I hg hm ⟨rfl,?_⟩ hd)
 have z:=ha Fj pins s σ H _ I h;rw [he] at z |-;refine Calls.evalArgs_plain (wpAny_mono z (λus s₂ ⟨vs,H2,I2,rv,hl,hE⟩=>?_) λ_ _ y=>y);exact ⟨rfl,by rw [<-rv.length]; exact hl,I2.bk _ _ hC,hN.keeps I2.bk,T.keeps I2.bk,λh' e' JN=>hR pins σ H2 s₂ h' e' _ _ I2 JN hE⟩
end
section
variable {P:Program}{w:World}{K:PySem.W.Frag}{mg:Str->Option Value}{base:Heap}{N:List Str}{qual:Str}{scope:Scope}{f:Addr}{cd:Value}{A:Around}{outer:List Env}{s:Shared}{H:Hp}{E:XK}
theorem eV:wx (fB (aV P w) P w K mg base N qual scope f cd A outer s H E) λ_=>E:=by
 intro pins σ H1 s1 h' e cls args I hm hE;have HJ:(fB (aV P w) P w K mg base N qual scope f cd A outer s H E).stack=(fB (aV P w) P w K mg base N qual scope f cd A outer s H E).env :: outer:=rfl;have hl:=I.stack;obtain ⟨t,he,htn,ht⟩:=hm.there;have hB:∀ b o,(PySem.W.hideAll s1.heap (df (fB (aV P w) P w K mg base N qual scope f cd A outer s H E).stack)).get? b=some o->s1.heap.get? b=some o:=λb o q=>PySem.W.of_hideAll _ q
 have nB:(PySem.W.hideAll s1.heap (df (fB (aV P w) P w K mg base N qual scope f cd A outer s H E).stack)).get? e=none:=by
  cases q:(PySem.W.hideAll s1.heap (df (fB (aV P w) P w K mg base N qual scope f cd A outer s H E).stack)).get? e with
  | none=>rfl
  | some o=>have z:=hB _ _ q; rw [hm.new] at z; cases z
 have YO:=PySem.W.funFrames_hide hl λenv he a ha=>List.mem_filterMap.mpr ⟨env,he,ha⟩
 refine ux (B:=PySem.W.hideAll s1.heap (df (fB (aV P w) P w K mg base N qual scope f cd A outer s H E).stack)) (s:={ s1 with heap:=h' }) (d:=none) (cls:=cls) (a0:=.ref t) I.ok.frames (YO.of_keeps λb o q _=>⟨o,hm.keeps b o q,rfl⟩) rfl
  (λb o q=>hm.keeps b o (hB b o q)) nB he rfl rfl rfl rfl rfl λGV x1 x4=>?_
 exact ⟨e,cls,.ref t,_,none,H1,rfl,I.os,I.bare,rC (outer:=outer) I rfl rfl hm rfl x1 x4,hE⟩
end
theorem ae {P:Program}{w:World}{X:Cx}:dR (aV P w) X λ_ _ _=>False:=by
 intro pins σ H1 s1 e s' I hx;obtain ⟨a,cls,a0,B,d,H',_,_,_,_,hE⟩:=hx;exact hE.elim
noncomputable def kK (a:Addr)(cls:Value):HO:=.ext λh=>∃ o vs,h.get? a=some o/\o.cls=cls/\o.data = .fields vs
theorem yP {P:Program}{w:World}{H:Hp}{h:Heap}{a:Addr}{cls:Value}{o:Obj}{vs:Array Value}(e:h.get? a=some o)(hc:o.cls=cls)(hd:o.data = .fields vs):ba P w H h a (kK a cls):=
 ⟨⟨o,vs,e,hc,hd⟩,⟨o,e⟩,λh1 h2 ⟨o,vs,e,hc,hd⟩ k=>⟨o,vs,k o e,hc,hd⟩⟩
theorem rH {P:Program}{w:World}{H:Hp}{h:Heap}{a:Addr}{cls:Value}(k:eG P w H h)(e:H a=some (kK a cls)):∃ o vs,h.get? a=some o/\o.cls=cls/\o.data = .fields vs:=(k a _ e).1
noncomputable def v7 (vs:Array Value):Prop:=∃ t:Addr,vs = #[.ref t,.none,.none,.none,.bool false,.none]
noncomputable def Ea (a:Addr)(cls:Value)(dx:Addr)(fr:Bool):HO:=.ext λh=>∃ o vs,h.get? a=some o/\o.cls=cls/\o.data = .fields vs/\o.dict=some dx/\(fr=true->v7 vs)
noncomputable def A3 (a:Addr)(cls:Value):Option Addr->HO
 | none=>kK a cls
 | some dx=>Ea a cls dx false
theorem yU {P:Program}{w:World}{H:Hp}{h:Heap}{a:Addr}{cls:Value}{d:Option Addr}{o:Obj}{vs:Array Value}(e:h.get? a=some o)(hc:o.cls=cls)(hd:o.data = .fields vs)(hx:o.dict=d):ba P w H h a (A3 a cls d):=by
 cases d with
 | none=>exact yP e hc hd
 | some dx=>exact ⟨⟨o,vs,e,hc,hd,hx,λz=>by cases z⟩,⟨o,e⟩,λh1 h2 ⟨o,vs,e,hc,hd,hx,z⟩ k=>⟨o,vs,k o e,hc,hd,hx,z⟩⟩
theorem FlyD.first {B h:Heap}{l:List Env}{e:Addr}{cls a0 fl:Value}{d:Option Addr}(x:FlyD B l e cls a0 fl d h):∃ oe vs,h.get? e=some oe/\oe.cls=cls/\oe.data = .fields vs/\oe.dict=d :=
 let ⟨o,vs,_,_,_,h1,h2,h3,h4,_⟩:=x.tr; ⟨o,vs,h1,h3.1,h4,h2⟩
noncomputable def C9 (X:Cx)(pins:List (Addr × Obj))(E:St->XK):Value->Shared->Prop:=λe s'=>∃ σ H s,Inv X pins σ H s/\aV X.prog X.w X.stack H s (E σ) e s'
noncomputable abbrev Cx.tr (X:Cx)(pins:List (Addr × Obj))(E:St->XK):Cx:={ X with pn:=X.pn++pins,xe:=C9 X pins E }
noncomputable abbrev Cx.hd (X:Cx)(a:Addr):Cx:={ X with A:=X.A.mark (some (.ref a)),calm:=false,xe:=λ_ _=>False }
section
variable {X:Cx}{pins pins':List (Addr × Obj)}{σ:St}{H:Hp}{s:Shared}{E:St->XK}{a:Addr}
theorem A4 (I:Inv X pins σ H s):Inv (X.tr pins E) [] σ H s :=
 ⟨⟨I.ok.mod,I.ok.kind,I.ok.glob,I.ok.blt,I.ok.above,I.ok.inj,I.ok.has,I.ok.cab,I.ok.hd,I.ok.frames,I.ok.stk,I.ok.exf,I.ok.bs,I.ok.bsz,I.ok.noex,I.ok.exfs,I.ok.funs,I.ok.frf⟩,I.os,I.bare,I.base,I.loc,I.cell,I.free,I.freeC,λp hp=>I.pin p (by
   have z:p∈(X.pn++pins)++[]:=hp;rw [List.append_nil] at z
   exact z),I.hok,I.len⟩
theorem fJ (I:Inv (X.tr pins E) pins' σ H s):Inv X pins σ H s :=
 ⟨⟨I.ok.mod,I.ok.kind,I.ok.glob,I.ok.blt,I.ok.above,I.ok.inj,I.ok.has,I.ok.cab,I.ok.hd,I.ok.frames,I.ok.stk,I.ok.exf,I.ok.bs,I.ok.bsz,I.ok.noex,I.ok.exfs,I.ok.funs,I.ok.frf⟩,I.os,I.bare,I.base,I.loc,I.cell,I.free,I.freeC,λp hp=>I.pin p (List.mem_append_left _ hp),I.hok,I.len⟩
theorem yv (I:Inv X pins σ H s):Inv (X.hd a) pins σ H s :=
 ⟨⟨I.ok.mod,I.ok.kind,I.ok.glob,I.ok.blt,I.ok.above,I.ok.inj,I.ok.has,I.ok.cab,(λz=>absurd (show false=true from z) (by decide)),I.ok.frames,I.ok.stk,I.ok.exf,I.ok.bs,I.ok.bsz,I.ok.noex,I.ok.exfs,I.ok.funs,I.ok.frf⟩,I.os,I.bare,I.base,I.loc,I.cell,I.free,I.freeC,I.pin,I.hok,I.len⟩
theorem hJ (ok:X.Ok)(I:Inv (X.hd a) pins σ H s):Inv X pins σ H s :=
 ⟨ok,I.os,I.bare,I.base,I.loc,I.cell,I.free,I.freeC,I.pin,I.hok,I.len⟩
theorem jc {D:Ends}{f:Flow}{s':Shared}(h:SP (X.tr pins E) [] D f s'):SP X pins D f s':=by
 cases f with
 | next=>obtain ⟨σ',H',I,q⟩:=h; exact ⟨σ',H',fJ I,q⟩
 | brk=>obtain ⟨σ',H',I,q⟩:=h; exact ⟨σ',H',fJ I,q⟩
 | cont=>obtain ⟨σ',H',I,q⟩:=h; exact ⟨σ',H',fJ I,q⟩
 | ret u=>obtain ⟨v,σ',H',I,r,q⟩:=h; exact ⟨v,σ',H',fJ I,r,q⟩
theorem qA:∀ (pins':List (Addr × Obj))(σ:St)(H:Hp)(s:Shared)(e:Value)(s':Shared),Inv (X.tr pins E) pins' σ H s->aV X.prog X.w X.stack H s (E σ) e s'->(X.tr pins E).xe e s':=λpins' σ H s e s' I hx=>⟨σ,H,s,fJ I,hx⟩
noncomputable def D6 (K:PySem.W.Frag)(c:Value)(i:Nat)(ts:TS)(D:Ends):St->XK:=λσ cls d H'=>PySem.W.exmOne K cls c=some true/\∀ a,H' a=none →
 ts { nx:=λσ' H2=>D.nx (σ'.set i none) H2,rt:=D.rt,bk:=λσ' H2=>D.bk (σ'.set i none) H2,ct:=λσ' H2=>D.ct (σ'.set i none) H2 } (σ.set i (some (.ref a))) (upd H' a (A3 a cls d))
noncomputable def Ek (K:PySem.W.Frag)(c:Value)(i:Nat)(tb:(St->XK)->TS)(ts:TS):TS:=λD σ H=>tb (D6 K c i ts D) D σ H
theorem fY {M:Model}{E':Value->Shared->Prop}{A:Around}{i:Nat}{n:Str}{pos:Pos}{Q:Unit->Shared->Prop}(I:Inv X pins σ H s)(hN:X.N.Nodup)(hi:X.N[i]?=some n)(hl:X.env.scope.names.lookup n=some .local)
 (h:∀ s',Inv X pins (σ.set i none) H s'->Q () s'):wpAny M A (do bindName X.env n .none; unbindBehindTheSuite X.env n pos) Q E' s:=by
 obtain ⟨m,hn,SD⟩:=id I.loc;refine wpAny_nameGoes_keeps hl hn (by rw [I.ok.kind]; rfl) λh' v Sb hs=>h _ ?_;have nL:∀ b o,X.s₀.heap.get? b=some o->b≠X.env.locals:=λb o e=>Nat.ne_of_lt (Nat.lt_of_lt_of_le (Heap.lt_size e) I.ok.above);refine ⟨I.ok,I.os,I.bare,⟨λb o e n hb hx=>(hs.2 b (nL b o e)).trans (I.base.keep b o e n hb hx),λb o e n hb hx=>?_,I.base.free,λb o e hx=>?_,I.base.tups,I.base.frzs,I.base.tbls⟩,⟨_,Sb,λj y w' e1 e2 e3=>?_⟩,λy c e=>?_,I.free,I.freeC,λp hp=>?_,λb u e=>?_,by simpa using I.len⟩
 ·obtain ⟨sl,e1⟩:=I.base.slot b o e n hb hx;exact ⟨sl,(hs.2 b (nL b o e)).trans e1⟩
 ·obtain ⟨o',e1⟩:=I.base.there b o e hx;exact ⟨o',(hs.2 b (nL b o e)).trans e1⟩
 ·have hj:j≠i:=λz=>by
   subst z
   by_cases Fd:j < σ.length
   ·rw [List.getElem?_set_self Fd] at e2; cases e2
   ·rw [List.getElem?_eq_none (by simpa using Fd)] at e2; cases e2
  rw [List.getElem?_set_ne (Ne.symm hj)] at e2;obtain ⟨u,r,q⟩:=SD j y w' e1 e2 e3;refine ⟨u,r,?_⟩
  rcases q with ⟨k,e⟩ | ⟨k,c,e,z⟩
  ·refine .inl ⟨k,?_⟩;have YQ:y≠n:=λe=>hj (jr hN e1 (e ▸ hi));show (if y=n then v else m y)=some u;rw [if_neg YQ];exact e
  ·exact .inr ⟨k,c,e,z.sameBut hs (I.cne y c e)⟩
 ·obtain ⟨w',z⟩:=I.cell y c e;exact ⟨w',z.sameBut hs (I.cne y c e)⟩
 ·obtain ⟨e,n',ne,nf,d⟩:=I.pin p hp;exact ⟨(hs.2 p.1 ne).trans e,n',ne,nf,d⟩
 ·refine (I.hok b u e).stay (λc w' hc q=>(hs.2 c ?_).trans q) (λ_ q=>q) λ_ _ q=>q;rintro rfl
  rcases hc with rfl | hc
  ·rw [I.free] at e; cases e
  ·rw [I.free] at hc; cases hc
theorem BV {x n:Str}{C:Addr}{i:Nat}{np Jq pos:Pos}{body JO:List Stmt}{b₀:Stmt}{tb:(St->XK)->TS}{ts:TS}(HJ:X.stack=X.env :: X.outer)(Hw:X.env.frame=some X.env.locals)(hN:X.N.Nodup)(hi:X.N[i]?=some n)
 (hl:X.env.scope.names.lookup n=some .local)(hg:Gl X x)(hm:X.mg x=some (.ref C))(hb:∀ pins E,iX (X.tr pins E) body (tb E))(hs:∀ a,iX (X.hd a) (b₀ :: JO) ts)(hd:(x == ("__debug__":Str))=false:=by decide):
 PS X (.Try body [.ExceptHandler (some (.Name x np)) (some n) (b₀ :: JO) Jq] [] [] pos) (Ek X.K (.ref C) i tb ts):=by
 intro pins s σ H D I h;refine wpAny_Try_except (wpAny_mono (hb pins _ [] s σ H D (A4 I) h) (λf s1 q=>?_) λe s1 q=>?_)
 ·cases f with
  | next=>exact wpAny_execs_nil (jc q)
  | ret v=>exact jc q
  | brk=>exact jc q
  | cont=>exact jc q
 ·obtain ⟨σ1,H1,s0,I1,a,cls,a0,B,d,H2,rfl,ho,Wt,F,hx,hw⟩:=q
  have YR:X.A.frames=some (X.env :: X.outer):=by rw [I.ok.frames,HJ]
  have fl:=F.fly;rw [HJ] at fl;refine wK YR Hw fl λh4 held Wu=>gV (s:={ s1 with heap:=h4 }) held λh5 SE Wv=>?_
  have SG:FlyD B X.stack a cls a0 .none d h5:=by rw [HJ]; exact SE
  have I5:Inv X pins σ1 H2 { s1 with heap:=h5 }:=kn (tk:=s1.toks) I1 ho Wt F SG (Wu.trans Wv);obtain ⟨ob,_,YS,SH,_,_⟩:=SE.first;have YT:Inv (X.hd a) pins σ1 H2 { s1 with heap:=h5 }:=yv I5;refine wpAny_handleBy_cons (codeAny_handlers_test (fj YT hg hm ?_ hd)) (by intro q; cases q);have LT:PySem.W.Looks (model X.prog X.w) h5 (typeOf (.ref a)) cls:=SH ▸ (PySem.W.Looks.ld YS).andThen .now;refine (PySem.W.exm_one (M:=model X.prog X.w) I5.kIn LT hx) _ _ _ _ (λ_ _ e=>e) ?_;refine codeAny_handlers_suite_as ?_;refine gV (s:={ s1 with heap:=h5 }) SE λh6 Ww YU=>?_
  have Jr:FlyD B X.stack a cls a0 .none d h6:=by rw [HJ]; exact Ww
  have I6:Inv X pins σ1 H2 { s1 with heap:=h6 }:=kn (tk:=s1.toks) I1 ho Wt F Jr ((Wu.trans Wv).trans YU);obtain ⟨oe,vs,HL,SI,Js,SJ⟩:=Ww.first
  have I7:Inv X pins σ1 (upd H2 a (A3 a cls d)) { s1 with heap:=h6 }:=by
   have nB:X.s₀.heap.get? a=none\/True:=.inr trivial;refine ⟨I6.ok,I6.os,I6.bare,?_,I6.loc,I6.cell,?_,?_,?_,da I6.hok F.new (yU HL SI Js SJ),I6.len⟩
   ·refine ⟨I6.base.keep,I6.base.slot,λb o e n Rl=>?_,I6.base.there,λb xs e=>?_,λb o u e=>?_,λb ps e=>?_⟩
    ·have Ft:b≠a:=λz=>by
      subst z;have e1:=I1.base.there b o e Rl;obtain ⟨o1,e1⟩:=e1
      by_cases Wx:b∈df X.stack
      ·have:=(Jr.fr.mem Wx);obtain ⟨_,o2,e2,d2⟩:=this;rw [HL] at e2
       cases e2
       exact d2 vs Js
      ·obtain ⟨o2,e2⟩:=F.there b o1 e1 Wx;rw [Jr.new] at e2
       cases e2
     rw [ao Ft];exact I6.base.free b o e n Rl
    ·rw [ao (au (I6.base.tups b xs e) F.new)]; exact I6.base.tups b xs e
    ·rw [ao (au (I6.base.frzs b o u e) F.new)]; exact I6.base.frzs b o u e
    ·obtain ⟨m,q⟩:=I6.base.tbls b ps e;exact ⟨m,by rw [ao (au q F.new)]; exact q⟩
   ·have Ft:X.env.locals≠a:=λz=>by
     obtain ⟨m,⟨o,es,ep,e,d,_⟩,_⟩:=I6.loc;rw [z,HL] at e
     cases e
     rw [Js] at d
     cases d
    rw [ao Ft];exact I6.free
   ·intro y c e
    have Ft:c≠a:=λz=>by
     obtain ⟨v,o,e1,d⟩:=I6.cell y c e;rw [z,HL] at e1
     cases e1
     rw [Js] at d
     cases d
    rw [ao Ft];exact I6.freeC y c e
   ·intro p hp;obtain ⟨e,n',ne,nf,d⟩:=I6.pin p hp;refine ⟨e,?_,ne,nf,d⟩
    have Ft:p.1≠a:=λz=>by
     obtain ⟨e1,n1,_,nf1,_⟩:=I1.pin p hp
     have Rr:p.1 ∉ df X.stack:=λq=>by
      rcases List.mem_cons.mp (I1.stkSub _ q) with w | w
      ·exact ne w
      ·exact nf w
     obtain ⟨o2,e2⟩:=F.there p.1 _ e1 Rr;rw [z,Jr.new] at e2
     cases e2
    rw [ao Ft];exact n'
  refine fM (M:=model X.prog X.w) I7 hN hi (.inl hl) (show aC (.ref a) (.ref a) from rfl) (λs8 I8=>?_) (.inr hl);refine wpAny_mono (hs a pins s8 _ _ _ (yv I8) (hw a F.new)) (λf s9 q=>?_) λ_ _ z=>False.elim z
  cases f with
  | next =>
    obtain ⟨σ9,H9,I9,q9⟩:=q;exact fY (hJ I.ok I9) hN hi hl λHM Jt=>⟨_,_,Jt,q9⟩
  | brk =>
    obtain ⟨σ9,H9,I9,q9⟩:=q;exact fY (hJ I.ok I9) hN hi hl λHM Jt=>⟨_,_,Jt,q9⟩
  | cont =>
    obtain ⟨σ9,H9,I9,q9⟩:=q;exact fY (hJ I.ok I9) hN hi hl λHM Jt=>⟨_,_,Jt,q9⟩
  | ret u =>
    obtain ⟨v,σ9,H9,I9,r9,q9⟩:=q;exact fY (hJ I.ok I9) hN hi hl λHM Jt=>⟨v,_,_,Jt,r9,q9⟩
end
structure ExcK (K:Frag)(C:Addr):Prop where
 cls:(clsIn K C).isSome=true
 ga:findIn K (.ref C) "__getattribute__"=some (some (.builtin "BaseException.__getattribute__"))
 gx:findIn K (.ref C) "__getattr__"=some none
 ca:findIn K (.ref C) "__class__"=some (some (.builtin "object.__class__"))
 ob:mroIn K C (.type "object")=some true
 be:mroIn K C (.type "BaseException")=some true
section
variable {prog:Program}{w:World}{A:Around}{E:Value->Shared->Prop}{K:Frag}{x C:Addr}{ox:Obj}
theorem vf {M:Model}{JP:Value}{Q:Unit->Shared->Prop}{s:Shared}(X:K.In s.heap)(k:ExcK K C)(e:s.heap.get? x=some ox)(hc:ox.cls = .ref C)(hq:Q () s):
 wpAny M A (checkBuiltinCall "BaseException.__getattribute__" ⟨[.ref x,JP],[]⟩) Q E s:=by
 obtain ⟨hh,g,d,t,os⟩:=s;have L0:Looks M hh (typeOf (.ref x)) (.ref C):=hc ▸ (Looks.ld e).andThen .now;have L5:=looks_mroIn (M:=M) X k.be
 have hk:builtinKind "BaseException.__getattribute__"=some .slot:=by decide +kernel
 have GW:splitId "BaseException.__getattribute__"=some ("BaseException","__getattribute__"):=by decide +kernel
 have ha:=F.args_bexc_ga (.ref x) JP;simp only [checkBuiltinCall,hk,GW];unfold isInstance
 repeat (any_goals (first | assumption | lk | wp_step))
open Builtin Builtin.ObjectAttr Builtin.Getset_descriptor in
theorem kO {R:Result->Shared->Prop}{tp:Value}{s:Shared}(X:K.In s.heap)(k:ExcK K C)(e:s.heap.get? x=some ox)(hc:ox.cls = .ref C)(h:R (.ok (.ret (.ref C))) s):
 codeAny (model prog w) A (.call (.builtin "getset_descriptor.__get__") ⟨[.builtin "object.__class__",.ref x,tp],[]⟩) R s:=by
 obtain ⟨hh,g,dr,t,os⟩:=s;have L0:Looks (model prog w) hh (typeOf (.ref x)) (.ref C):=hc ▸ (Looks.ld e).andThen .now;have L1:=looks_mroIn (M:=model prog w) X k.ob;refine codeAny_call_builtin KF.slot_gs.plain KF.entry_gs (KF.slot_gs.check _ _ _ _ _ _ _ _ KF.type_class (KF.args_gs _ _ _) ?_);unfold Builtin.«getset_descriptor.__get__» descrGet;rw [dga_obj];refine wpAny_bind (wpAny_pure ?_);unfold descrGetter descrCheckInstance descrNameAndClass isInstance;simp only [KF.owner_class]
 repeat lk
 refine ⟨Code.quiet_builtin _ (by decide +kernel),codeAny_builtin KF.entry_class ?_⟩;unfold Builtin.«object.__class__» shownTypeOf
 repeat lk
 exact h
theorem i7 {tk:Tok}{Q:PySem.Fin->Shared->Prop}{s:Shared}(X:K.In s.heap)(k:ExcK K C)(e:s.heap.get? x=some ox)(hc:ox.cls = .ref C)(hq:Q (.done (.ret (.ref C))) s):
 wpAny (model prog w) A (Builtin.«object.__getattribute__» ⟨[.ref x,.str "__class__" tk],[]⟩) Q E s:=by
 obtain ⟨hh,g,d,t,os⟩:=s;have L0:Looks (model prog w) hh (typeOf (.ref x)) (.ref C):=hc ▸ (Looks.ld e).andThen .now;have L3:=looks_findIn (M:=model prog w) X k.ca;have f5:=F.typeOf_object_class;have f6:=F.slot_gs_get.lookup;have f7:=F.slot_gs_set.lookup
 repeat (any_goals (first | assumption | (with_reducible refine Looks.at (by assumption) ?_) | (with_reducible refine Looks.at L0 ?_) | wp_step))
 refine kO X k e hc ?_
 repeat (any_goals (first | assumption | wp_step))
theorem mw {tk:Tok}{fill expr:Bool}{Q:Value->Shared->Prop}{s:Shared}(X:K.In s.heap)(k:ExcK K C)(e:s.heap.get? x=some ox)(hc:ox.cls = .ref C)(hq:Q (.ref C) s):
 wpAny (model prog w) A (getAttrBy (.ref x) (.str "__class__" tk) fill expr) Q E s:=by
 obtain ⟨hh,g,d,t,os⟩:=s;have L0:Looks (model prog w) hh (typeOf (.ref x)) (.ref C):=hc ▸ (Looks.ld e).andThen .now;have L1:=looks_findIn (M:=model prog w) X k.ga;have L2:=looks_findIn (M:=model prog w) X k.gx;have f3:=F.attr_ValueError.ga.bind (.ref x)
 have hx0:(expr&&onTheHeap (Value.builtin "BaseException.__getattribute__"))=false:=by cases expr <;> rfl
 have Hk:(Value.builtin "BaseException.__getattribute__" == Value.builtin "object.__getattribute__")=false:=by decide +kernel
 have SK:(onTheHeap (Value.ref C)&&Value.builtin "BaseException.__getattribute__" == Value.builtin "object.__getattribute__")=false:=by rw [Hk]; rfl
 repeat (any_goals (first | assumption | (with_reducible refine Looks.at (by assumption) ?_) | (with_reducible refine Looks.at L0 ?_) | wp_step))
 refine codeAny_call_builtin F.attr_ValueError.ga.plain F.entry_bexc_ga (vf X k e hc (i7 X k e hc ?_))
 repeat (any_goals (first | assumption | wp_step))
theorem vo {Q:Option Value->Shared->Prop}{s:Shared}(X:K.In s.heap)(k:ExcK K C)(e:s.heap.get? x=some ox)(hc:ox.cls = .ref C)(hq:Q (some (.ref C)) { s with toks:=s.toks + 1 }):
 wpAny (model prog w) A (getAttr? (.ref x) "__class__") Q E s:=by
 unfold getAttr? getAttrBy?;refine wpAny_bind (wpAny_mkText (wpAny_bind (wpAny_attempt (mw (s:={ s with toks:=s.toks + 1 }) X k e hc ?_))));exact wpAny_pure hq
theorem vQ (k:ExcK K C):KitX K (.ref x) (.ref C) (λh=>∃ o,h.get? x=some o/\o.cls = .ref C) where
 ty:=λ_ _ _ ⟨o,e,hc⟩=>hc ▸ (Looks.ld e).andThen .now
 it:=λ_ _ X _=>by
  have Jk:=k.cls;unfold clsIn at Jk
  split at Jk
  ·rename_i c' d' YV Hu ho
   intro A' Q' E' s' kk q;unfold isType loadHead;exact wpAny_bind (wpAny_loadPart (kk _ _ (X _ _ ho)) (wpAny_pure q))
  ·cases Jk
 ne:=λh tp dd its n sl X YW=>by
  have Jk:=k.cls;refine Bool.eq_false_iff.mpr λq=>?_;have e:C=tp:=Value.ref.inj (beq_iff_eq.mp q);subst e;unfold clsIn at Jk
  split at Jk
  ·rename_i c' d' YV Hu ho
   have z:=(X _ _ ho).symm.trans YW
   cases z
  ·cases Jk
 ca:=λX ⟨o,e,hc⟩ q=>vo X k e hc q
end
section
variable {X:Cx}{pins:List (Addr × Obj)}{σ:St}{H:Hp}{s:Shared}
inductive TyX (K:Frag)(H:Hp):V->Value->Prop where
 | of {x:V}{t:Value}(h:TyOf K H x t):TyX K H x t
 | exc {a C:Addr}(e:H a=some (kK a (.ref C)))(k:ExcK K C):TyX K H (.ref a) (.ref C)
theorem A6 {A:Around}{E:Value->Shared->Prop}{Q:Value->Shared->Prop}{x:V}{u t c:Value}{b:Bool}(I:Inv X pins σ H s)(rx:aC x u)(ty:TyX X.K H x t)(e:kitOne X.K t c=some b)(h:∀ tk,Q (.bool b) { s with toks:=tk }):
 wpAny (model X.prog X.w) A (call (.builtin "isinstance") [u,c]) Q E s:=by
 cases ty with
 | of z=>exact vz I rx z e h
 | exc ea k =>
   rename_i a C
   cases (show u=Value.ref a from rx)
   obtain ⟨o,vs,h1,h2,_⟩:=rH I.hok ea;exact kia_one (vQ k) I.kIn ⟨o,h1,h2⟩ e (λz=>nomatch z) h
noncomputable def Et:V->Value->Prop
 | .ty n,c=>c = .type n
 | .ref a,c=>c = .ref a
 | _,_=>False
theorem aR:eT X (.builtin "isinstance") (λxs H Q=>∃ x c t cv b,xs=[x,c]/\Et c cv/\TyX X.K H x t/\kitOne X.K t cv=some b/\Q (.bl b) H):=by
 intro pins s σ H xs us Q I r h;obtain ⟨x,c,t,cv,b,rfl,hc,ty,e,q⟩:=h
 cases r with
 | cons r1 r2 =>
   cases r2 with
   | cons r2 r3 =>
     cases r3
     rename_i u uc
     have YX:uc=cv:=by
      cases c with
      | ty n=>cases (show uc=Value.type n from r2); exact hc.symm
      | ref a=>cases (show uc=Value.ref a from r2); exact hc.symm
      | _=>exact hc.elim
     subst YX;exact A6 I r1 ty e λtk=>⟨.bl b,H,I.tok tk,rfl,q⟩
end
section
variable {P:Program}{w:World}{K:PySem.W.Frag}{mg:Str->Option Value}{base:Heap}
theorem Fun.okN {x qual:Str}{st:Stmt}{f:Addr}{fd:FuncData}{N ps:List Str}{k:Nat}{sp:Sp}(F:Fun K x qual st f fd)(S:FnScope N ps (aq st))(len:∀ vs H Q E,sp vs H Q E->vs.length=ps.length)
 (Fp:∀ (Fb:Value)(A:Around)(outer:List Env)(s:Shared)(H:Hp)(vs:List V)(Q:VK)(E:XK),Room k (A.deeper (envOfC qual (aq st) s.heap.objs.size f Fb))->sp vs H Q E →
  ∃ t,iX (fB (aV P w) P w K mg base N qual (aq st) f Fb A outer s H E).nox (bz st) t/\t { nx:=λ_ H'=>Q .non H',rt:=Q } (fF N vs) H):FnOk P w K mg base (aV P w) (k + 1) f fd ps sp:=by
 obtain ⟨oc,od,kV,doc,pm,an,Fb,ct,Fo,rfl,lk,F7⟩:=F.ex;refine tH lk F7 S len λA outer s H vs Q E hr Hh=>?_;obtain ⟨t,h,q⟩:=Fp Fb A outer s H vs Q E hr Hh;exact ⟨t,h.nox,q⟩
theorem Fun.okE {x qual:Str}{st:Stmt}{f:Addr}{fd:FuncData}{N ps:List Str}{k:Nat}{sp:Sp}(F:Fun K x qual st f fd)(S:FnScope N ps (aq st))(len:∀ vs H Q E,sp vs H Q E->vs.length=ps.length)
 (Fp:∀ (Fb:Value)(A:Around)(outer:List Env)(s:Shared)(H:Hp)(vs:List V)(Q:VK)(E:XK),Room k (A.deeper (envOfC qual (aq st) s.heap.objs.size f Fb))->sp vs H Q E →
  ∃ t,iX (fB (aV P w) P w K mg base N qual (aq st) f Fb A outer s H E) (bz st) t/\t { nx:=λ_ H'=>Q .non H',rt:=Q } (fF N vs) H):FnOk P w K mg base (aV P w) (k + 1) f fd ps sp:=by
 obtain ⟨oc,od,kV,doc,pm,an,Fb,ct,Fo,rfl,lk,F7⟩:=F.ex;exact tH lk F7 S len λA outer s H vs Q E hr Hh=>Fp Fb A outer s H vs Q E hr Hh
end
section
variable {X:Cx}{pins:List (Addr × Obj)}{σ:St}{H:Hp}{s:Shared}
theorem xG {x:V}{u t:Value}(I:Inv X pins σ H s)(rx:aC x u)(ty:TyX X.K H x t):Looks (model X.prog X.w) s.heap (typeOf u) t:=by
 cases ty with
 | of ty =>
   cases ty with
   | non=>cases (show u=Value.none from rx); exact kitx_none.ty _ _ I.kIn True.intro
   | bl y=>cases (show u=Value.bool y from rx); exact kitx_bool.ty _ _ I.kIn True.intro
   | int i=>obtain ⟨t,q⟩:=(show ∃ t,u=Value.int i t from rx); cases q; exact kitx_int.ty _ _ I.kIn True.intro
   | str y=>obtain ⟨t,q⟩:=(show ∃ t,u=Value.str y t from rx); cases q; exact kitx_str.ty _ _ I.kIn True.intro
   | flt y=>obtain ⟨t,q⟩:=(show ∃ t,u=Value.float y t from rx); cases q; exact kitx_float.ty _ _ I.kIn True.intro
   | @lst a xs ea =>
     cases (show u=Value.ref a from rx)
     obtain ⟨_,_,n,_,h1⟩:=(show ba X.prog X.w H s.heap a (.lst xs) from I.hok a _ ea);exact kitx_list.ty _ _ I.kIn ⟨_,h1,rfl⟩
   | @frz a ob xs ea =>
     cases (show u=Value.ref a from rx)
     obtain ⟨_,_,_,n,_,h1⟩:=(show ba X.prog X.w H s.heap a (.frz ob (.lst xs)) from I.hok a _ ea);exact kitx_list.ty _ _ I.kIn ⟨_,h1,rfl⟩
   | @tup a xs ea =>
     cases (show u=Value.ref a from rx)
     obtain ⟨_,_,_,p⟩:=(show ba X.prog X.w H s.heap a (.tup xs) from I.hok a _ ea);obtain ⟨o,h1,h2,_⟩:=p;exact kitx_tuple.ty _ _ I.kIn ⟨o,h1,h2⟩
   | @dK a E9 ea =>
     cases (show u=Value.ref a from rx)
     obtain ⟨_,_,vs,_,p⟩:=(show ba X.prog X.w H s.heap a (.dK E9) from I.hok a _ ea);obtain ⟨o,es,ep,h1,h2,_⟩:=p;exact kitx_dict.ty _ _ I.kIn ⟨o,h1,h2.1⟩
   | @dT a E9 ea =>
     cases (show u=Value.ref a from rx)
     obtain ⟨_,_,xs,_,o,es,ep,h1,h2,_⟩:=(show ba X.prog X.w H s.heap a (.dT E9) from I.hok a _ ea);exact kitx_dict.ty _ _ I.kIn ⟨o,h1,h2.1⟩
   | @ins a C dx fs ea cl ha hn M3 hm =>
     cases (show u=Value.ref a from rx)
     obtain ⟨mA,O,_⟩:=e9 I.hok ea;obtain ⟨od,J,_⟩:=O.look;exact J.type
 | exc ea k =>
   rename_i a C
   cases (show u=Value.ref a from rx)
   obtain ⟨o,vs,h1,h2,_⟩:=rH I.hok ea;exact h2 ▸ (Looks.ld h1).andThen .now
end
section
variable {X:Cx}{CX:CXT}{k:Nat}{f C:Addr}{fd:FuncData}{ps:List Str}{sp:Sp}{E:XK}
noncomputable def qI (K:Frag)(C:Addr)(sp:Sp)(E:XK)(neg:Bool):R2:=λx y H Q=>∃ p dx fs t,x = .ref p/\H p=some (.ins C dx fs)/\TyX K H y t/\notFirst K C t=true/\sp [x,y] H (λv H'=>∃ b,v = .bl b/\Q (.bl (b != neg)) H') E
theorem oU (hs:findIn X.K (.ref C) "__eq__"=some (some (.ref f)))(hf:isFn X.K (.ref f)=true)(F:FnOk X.prog X.w X.K X.mg X.base CX k f fd ps sp)(hr:Room k X.A)(hb:aA X.K fd ps [])(hx:dR CX X E):
 f9 X (compareOp .Eq) (qI X.K C sp E false):=by
 intro pins s σ H x y v u Q I rx ry h;obtain ⟨p,dx,fs,t,rfl,ep,ty,hn,q⟩:=h
 cases (show v=Value.ref p from rx)
 obtain ⟨mA,O,_⟩:=e9 I.hok ep;obtain ⟨od,J,_⟩:=O.look;obtain ⟨m,Fm⟩:=I.fr;refine cmp_ofEq (cmp_K hr.units0 Fm I.mod.kin J (xG I ry ty) hn hs hf ?_);refine bR (mB (dvs:=[]) F hr hb .nil hx I (us:=[.ref p,u]) (vs:=[.ref p,y]) (.cons rx (.cons ry .nil)) q) λr s1 ⟨z,H1,I1,rz,b,eb,q1⟩=>?_;subst eb
 cases (show r=Value.bool b from rz)
 exact ⟨.bl b,H1,I1,rfl,by simpa using q1⟩
theorem yE {pins:List (Addr × Obj)}{σ:St}{H:Hp}{s:Shared}{Q:VK}{us:List Value}{vs:List V}(F:FnOk X.prog X.w X.K X.mg X.base CX k f fd ps sp)(hr:Room (k + 1) X.A)(hb:aA X.K fd ps [])(hx:dR CX X E)
 (I:Inv X pins σ H s)(r:aK vs us)(h:sp vs H Q E):wpAny (model X.prog X.w) X.A.in1 (call (.ref f) us) (EP X pins σ Q) X.xe s:=by
 have hl:us.length=ps.length:=by rw [<-r.length]; exact F.len _ _ _ _ h
 have Fq:=hb s us I.kIn (by rw [List.append_nil]; exact hl);rw [List.append_nil] at Fq;refine wpAny_call (codeAny_mono (F.run X.A.in1 X.stack s H ⟨us,[]⟩ us vs Q E hr.in1 I.env0.in1 Fq r h) λr s' hq=>?_)
 cases r with
 | error e=>exact hx pins σ H s e s' I hq
 | ok fl =>
   cases fl with
   | ret u=>exact I.after hq
   | next=>exact False.elim hq
   | brk=>exact False.elim hq
   | cont=>exact False.elim hq
theorem xW {M:Model}{A:Around}{E':Value->Shared->Prop}{K:Frag}{x:Addr}{b:Value}{ox:Obj}{od:Option Obj}{Q:Unit->Shared->Prop}{s:Shared}(X:K.In s.heap)(J:InstAt s.heap x ox C od)(hm:mroIn K C (.type "object")=some true)(hq:Q () s):
 wpAny M A (checkBuiltinCall "object.__ne__" ⟨[.ref x,b],[]⟩) Q E' s:=by
 obtain ⟨hh,g,d,t,os⟩:=s;have L0:=J.type (M:=M);have L5:=looks_mroIn (M:=M) X hm;have hk:=F.cmpKind_ne;have GW:=F.cmpSplit_ne;have ha:=F.cmpArgs_ne (.ref x) b;simp only [checkBuiltinCall,hk,GW];unfold isInstance
 repeat (any_goals (first | assumption | lk | wp_step))
theorem hZ (hs:findIn X.K (.ref C) "__eq__"=some (some (.ref f)))(hf:isFn X.K (.ref f)=true)(JK:findIn X.K (.ref C) "__ne__"=some (some (.builtin "object.__ne__")))(hm:mroIn X.K C (.type "object")=some true)
 (F:FnOk X.prog X.w X.K X.mg X.base CX k f fd ps sp)(hr:Room (k + 1) X.A)(hb:aA X.K fd ps [])(hx:dR CX X E):
 f9 X (compareOp .NotEq) (qI X.K C sp E true):=by
 intro pins s σ H x y v u Q I rx ry h;obtain ⟨p,dx,fs,t,rfl,ep,ty,hn,q⟩:=h
 cases (show v=Value.ref p from rx)
 obtain ⟨mA,O,_⟩:=e9 I.hok ep;obtain ⟨od,J,_⟩:=O.look;have hu:X.A.units + 64 < cLine:=hr.units
 have Nl:wpAny (model X.prog X.w) X.A.in1 (call (.ref f) [.ref p,u]) (λr s'=>∃ b,r = .bool b/\EP X pins σ Q (.bool (!b)) s') X.xe s:=by
  refine wpAny_mono (yE F hr hb hx I (us:=[.ref p,u]) (vs:=[.ref p,y]) (.cons rx (.cons ry .nil)) q) (λr s1 ⟨z,H1,I1,rz,b,eb,q1⟩=>?_) λ_ _ e=>e;subst eb
  cases (show r=Value.bool b from rz)
  exact ⟨b,rfl,.bl (!b),H1,I1,rfl,by simpa using q1⟩
 have entry:wpAny (model X.prog X.w) X.A.in1 (Builtin.«object.__ne__» ⟨[.ref p,u],[]⟩) (λfin s'=>∃ b,fin = .done (.ret (.bool (!b)))/\EP X pins σ Q (.bool (!b)) s') X.xe s:=by
  unfold Builtin.«object.__ne__»;refine wpAny_bind (m:=slotArgs "__ne__" 1 _) (wpAny_pure ?_);refine wpAny_bind (wpAny_cRoomFor (by show X.A.units + 1 < cLine; omega) ?_);refine wpAny_bind (ifBound_K I.kIn J hs hf (wpAny_mono Nl (λr s1 z=>?_) λ_ _ e=>e));obtain ⟨b,rfl,q1⟩:=z;exact wpAny_bind (wpAny_truthy_bool (wpAny_pure ⟨b,rfl,q1⟩))
 have S:=PySem.F.cmp_object.ne
 have inner:wpAny (model X.prog X.w) X.A (callSpecialIfBound? (.ref p) "__ne__" [u]) (λr s'=>∃ b,r=some (.bool (!b))/\EP X pins σ Q (.bool (!b)) s') X.xe s:=by
  simp only [callSpecialIfBound?,bindSpecialIfBound?];refine wpAny_holding (wpAny_bind (wpAny_bind (wpAny_bind (J.type.here ((looks_findIn I.kIn JK).here ?_)))));simp only [S.bind];refine wpAny_bind (wpAny_askSetting (wpAny_ite ?_))
  have fin:wpAny (model X.prog X.w) X.A (call (.builtin "object.__ne__") ([.ref p]++[u]) >>= λv=>pure (some v)) (λr s'=>∃ b,r=some (.bool (!b))/\EP X pins σ Q (.bool (!b)) s') X.xe s:=by
   refine wpAny_bind (wpAny_call (codeAny_call_builtin S.plain PySem.F.cmpEntry_ne (xW I.kIn J hm (wpAny_mono entry (λfin s1 z=>?_) λ_ _ e=>e))));obtain ⟨b,rfl,q1⟩:=z;exact wpAny_pure ⟨b,rfl,q1⟩
  split
  ·exact wpAny_bind (wpAny_pure (wpAny_pure fin))
  ·exact wpAny_tryCatch (wpAny_bind (wpAny_pure (wpAny_pure fin)))
 have one:wpAny (model X.prog X.w) X.A (tryCompare (.ref p) "__ne__" u) (λr s'=>∃ v,r=some v/\EP X pins σ Q v s') X.xe s:=by
  unfold tryCompare;refine wpAny_bind (wpAny_mono inner (λr s1 z=>?_) λ_ _ e=>e);obtain ⟨b,rfl,q1⟩:=z;exact wpAny_pure ⟨_,rfl,q1⟩
 refine cmp_ofNotEq ?_;unfold richCompare;simp only [oneThing_ref];refine wpAny_holding (wpAny_bind (wpAny_cRoomFor (by omega) ?_));rw [cmpInfo_NotEq];dsimp only;refine wpAny_bind (J.type.here (wpAny_bind ((xG I ry ty).here ?_)))
 split
 ·rename_i qq
  have e:subIn X.K t (.ref C)=some false:=by
   rcases Bool.or_eq_true_iff.mp hn with e | e
   ·rw [beq_iff_eq.mp e] at qq; simp at qq
   ·exact beq_iff_eq.mp e
  refine wpAny_bind ((looks_subIn I.kIn e).here ?_);simp only [Bool.false_eq_true,if_false];refine wpAny_bind (wpAny_mono one (λr s' z=>?_) λ_ _ e=>e);obtain ⟨v,rfl,hq⟩:=z;exact wpAny_pure hq
 ·refine wpAny_bind (wpAny_pure ?_);simp only [Bool.false_eq_true,if_false];refine wpAny_bind (wpAny_mono one (λr s' z=>?_) λ_ _ e=>e);obtain ⟨v,rfl,hq⟩:=z;exact wpAny_pure hq
end
section
variable {X:Cx}
noncomputable def A8 (K:PySem.W.Frag):V->List V->Hp->VK->Prop:=λx vs H Q=>∃ l xs y,x = .ref l/\vs=[y]/\bu K H l xs/\(∀ z∈xs,eN z=true)/\eN y=true/\Q (.int (xs.countP λz=>vF z y:Nat)) H
theorem oB {xs:List V}{us:List Value}(r:aK xs us):∀ u∈us,∃ z∈xs,aC z u:=by
 induction r with
 | nil=>intro u h; cases h
 | cons r _ ih =>
   intro u h
   rcases List.mem_cons.mp h with rfl | h
   ·exact ⟨_,List.mem_cons_self,r⟩
   ·obtain ⟨z,hz,q⟩:=ih u h;exact ⟨z,List.mem_cons_of_mem _ hz,q⟩
theorem rl {y:V}{xs:List V}{us:List Value}(r:aK xs us)(hf:∀ z∈xs,eN z=true):us.countP (vG y)=xs.countP λz=>vF z y:=by
 induction r with
 | nil=>rfl
 | cons r _ ih =>
   rw [List.countP_cons,List.countP_cons,ih λz hz=>hf z (List.mem_cons_of_mem _ hz),gI r (hf _ List.mem_cons_self)]
theorem x8:DJ X "list.count" (A8 X.K):=by
 intro pins s σ H x vs v us Q I rx rv h;obtain ⟨l,xs,y,rfl,rfl,hS,hf,fy,q⟩:=h
 cases (show v=Value.ref l from rx)
 obtain ⟨u,rfl,ru⟩:=rv.one;obtain ⟨its,r,⟨⟨oc,od,Wy,Fo⟩,n,e,hc,hd,Nn⟩,_⟩:=I.list hS;simp only at hc hd Nn;subst hc hd Nn;refine call_meets F.slot_list_count ⟨_,e,rfl⟩ F.entry_list_count (F.args_list_count_2 _ _) (SeqAt.list_countAt l its.toArray n none Fo u (vG y)) ⟨e,λz hz=>?_,?_⟩
 ·obtain ⟨zv,Np,rz⟩:=oB r z (by simpa using hz);rw [gI rz (hf zv Np)];exact qo rz ru (hf zv Np) fy
 ·refine ⟨.int _,H,I.tok _,⟨s.toks,rfl⟩,?_⟩;rw [show its.toArray.toList=its from rfl,rl r hf];exact q
noncomputable def Bj (K:PySem.W.Frag):V->List V->Hp->VK->Prop:=λx vs H Q=>∃ l xs y j,x = .ref l/\vs=[y]/\bu K H l xs/\(∀ z∈xs,eN z=true)/\eN y=true/\(∃ z,xs[j]?=some z/\vF z y=true)/\(∀ i z,i < j->xs[i]?=some z->vF z y=false)/\j < 1000/\Q (.int (j:Nat)) H
theorem xv:DJ X "list.index" (Bj X.K):=by
 intro pins s σ H x vs v us Q I rx rv h;obtain ⟨l,xs,y,j,rfl,rfl,hS,hf,fy,⟨z0,SM,e0⟩,Jm,hj,q⟩:=h
 cases (show v=Value.ref l from rx)
 obtain ⟨u,rfl,ru⟩:=rv.one;obtain ⟨its,r,⟨⟨oc,od,Wy,Fo⟩,n,e,hc,hd,Nn⟩,_⟩:=I.list hS;simp only at hc hd Nn;subst hc hd Nn;obtain ⟨w0,Wz,r0⟩:=r.get SM
 have Fd:j < its.toArray.size:=by rw [List.size_toArray]; exact (List.getElem?_eq_some_iff.mp Wz).1
 have YY:its.toArray[j]=w0:=by
  have z:=(List.getElem?_eq_some_iff.mp Wz).2;simpa using z
 refine call_meets F.slot_list_index ⟨_,e,rfl⟩ F.entry_list_index (F.args_list_index_2 _ _) (SeqAt.list_indexAt l its.toArray n none Fo u (vG y) j Fd (by omega) (by rw [YY,gI r0 (hf _ (List.mem_of_getElem? SM))]; exact e0) (λm hm YZ=>?_)) ⟨e,λz hz=>?_,⟨.int _,H,I.tok _,⟨s.toks,rfl⟩,q⟩⟩
 ·have JN:m < xs.length:=by rw [r.length]; simpa using hm
  obtain ⟨w1,Y0,r1⟩:=r.get (show xs[m]?=some xs[m] by simp [JN])
  have Ju:its.toArray[m]=w1:=by
   have z:=(List.getElem?_eq_some_iff.mp Y0).2;simpa using z
  rw [Ju,gI r1 (hf _ (List.getElem_mem JN))];exact Jm m _ YZ (by simp [JN])
 ·obtain ⟨zv,Np,rz⟩:=oB r z (by simpa using hz);rw [gI rz (hf zv Np)];exact qo rz ru (hf zv Np) fy
end
noncomputable def cN (c:Addr)(o:Obj):HO:=.ext λh=>h.get? c=some o
theorem jg {P:Program}{w:World}{H:Hp}{h:Heap}{c:Addr}{o:Obj}(e:h.get? c=some o):ba P w H h c (cN c o):=⟨e,⟨o,e⟩,λh1 h2 e k=>k o e⟩
noncomputable def c5 (cs:List (Addr × Obj))(H:Hp):Hp:=λb=>match cs.lookup b with | some v=>some (cN b v) | none=>H b
noncomputable def dG (cs:List (Addr × Obj))(H:Hp):Hp:=λb=>match cs.lookup b with | some _=>none | none=>H b
theorem je {cs:List (Addr × Obj)}{H:Hp}{b:Addr}{v:Obj}(e:cs.lookup b=some v):c5 cs H b=some (cN b v):=by unfold c5; rw [e]
theorem bh {cs:List (Addr × Obj)}{H:Hp}{b:Addr}(e:cs.lookup b=none):c5 cs H b=H b:=by unfold c5; rw [e]
theorem d9 {cs:List (Addr × Obj)}{H:Hp}{b:Addr}{v:Obj}(e:cs.lookup b=some v):dG cs H b=none:=by unfold dG; rw [e]
theorem bJ {cs:List (Addr × Obj)}{H:Hp}{b:Addr}(e:cs.lookup b=none):dG cs H b=H b:=by unfold dG; rw [e]
noncomputable def dM (cs:List (Addr × Obj))(H:Hp):Prop:=∀ c v,cs.lookup c=some v->H c=some (cN c v)
noncomputable def p4 (cs:List (Addr × Obj))(H:Hp)(h:Heap):Prop:=∀ c v,cs.lookup c=some v->H c=none/\h.get? c=some v
section
variable {P:Program}{w:World}{cs:List (Addr × Obj)}{H H':Hp}{h h':Heap}
theorem jD (k:eG P w H h)(c:p4 cs H h):eG P w (c5 cs H) h:=λb o e=>by
 cases q:cs.lookup b with
 | some v =>
   rw [je q] at e
   cases e
   exact jg (c b v q).2
 | none =>
   rw [bh q] at e
   have keep:∀ (d:Addr)(x:HO),H d=some x->c5 cs H d=some x:=λd x ed=>by
    cases q2:cs.lookup d with
    | some v=>rw [(c d v q2).1] at ed; cases ed
    | none=>rw [bh q2]; exact ed
   exact (k b o e).stay (λd u _ z=>z) (λd z=>keep d _ z) λd xs z=>keep d _ z
theorem oq (k:eG P w H h)(c:dM cs H):eG P w (dG cs H) h:=λb o e=>by
 cases q:cs.lookup b with
 | some v=>rw [d9 q] at e; cases e
 | none =>
   rw [bJ q] at e
   have keep:∀ (d:Addr)(x:HO),(∀ v,x≠cN d v)->H d=some x->dG cs H d=some x:=λd x nx ed=>by
    cases q2:cs.lookup d with
    | some v=>rw [c d v q2] at ed; exact absurd (Option.some.inj ed).symm (nx v)
    | none=>rw [bJ q2]; exact ed
   exact (k b o e).stay (λd u _ z=>z) (λd z=>keep d _ (λv q=>by cases q) z) λd xs z=>keep d _ (λv q=>by cases q) z
theorem rV {fs:List Addr}(u:Un fs [] (dG cs H) H' h h')(c:dM cs H)(hc:∀ a v,cs.lookup a=some v->H' a=none):Un fs [] H (c5 cs H') h h':=by
 have nl:∀ b,H b=none->cs.lookup b=none:=λb n=>by
  cases q:cs.lookup b with
  | none=>rfl
  | some v=>rw [c b v q] at n; cases n
 have SN:∀ b o,H b=some o->(∀ v,o≠cN b v)->cs.lookup b=none:=λb o e nx=>by
  cases q:cs.lookup b with
  | none=>rfl
  | some v=>rw [c b v q] at e; exact absurd (Option.some.inj e).symm (nx v)
 refine ⟨λb o e n hb hx=>u.keep b o e (by rw [bJ (nl b n)]; exact n) hb hx,λb o e n hb hx=>u.slot b o e (by rw [bJ (nl b n)]; exact n) hb hx,λb o e n hx=>?_,u.there,λb xs e=>?_,λb o x e=>?_,λb ps e=>?_⟩
 ·rw [bh (nl b n)]; exact u.free b o e (by rw [bJ (nl b n)]; exact n) hx
 ·have q:=SN b _ e λv z=>by cases z
  rw [bh q]; exact u.tups b xs (by rw [bJ q]; exact e)
 ·have q:=SN b _ e λv z=>by cases z
  rw [bh q]; exact u.frzs b o x (by rw [bJ q]; exact e)
 ·have q:=SN b _ e λv z=>by cases z
  obtain ⟨m,z⟩:=u.tbls b ps (by rw [bJ q]; exact e);exact ⟨m,by rw [bh q]; exact z⟩
theorem yC {fs:List Addr}(u:Un fs [] (c5 cs H) H' h h')(c:p4 cs H h)(hc:dM cs H')(hk:eG P w H' h')(nf:∀ a v,cs.lookup a=some v->a ∉ fs):Un fs [] H (dG cs H') h h':=by
 refine ⟨λb o e n hb hx=>?_,λb o e n hb hx=>?_,λb o e n hx=>?_,u.there,λb xs e=>?_,λb o x e=>?_,λb ps e=>?_⟩
 ·cases q:cs.lookup b with
  | some v =>
    have e1:=(c b v q).2;rw [e] at e1
    cases e1
    exact (hk b _ (hc b _ q)).1
  | none=>exact u.keep b o e (by rw [bh q]; exact n) hb hx
 ·cases q:cs.lookup b with
  | some v=>exact absurd hb (nf b v q)
  | none=>exact u.slot b o e (by rw [bh q]; exact n) hb hx
 ·cases q:cs.lookup b with
  | some v=>exact d9 q
  | none=>rw [bJ q]; exact u.free b o e (by rw [bh q]; exact n) hx
 ·have q:cs.lookup b=none:=by
   cases z:cs.lookup b with
   | none=>rfl
   | some v=>rw [(c b v z).1] at e; cases e
  rw [bJ q]; exact u.tups b xs (by rw [bh q]; exact e)
 ·have q:cs.lookup b=none:=by
   cases z:cs.lookup b with
   | none=>rfl
   | some v=>rw [(c b v z).1] at e; cases e
  rw [bJ q]; exact u.frzs b o x (by rw [bh q]; exact e)
 ·have q:cs.lookup b=none:=by
   cases z:cs.lookup b with
   | none=>rfl
   | some v=>rw [(c b v z).1] at e; cases e
  obtain ⟨m,y⟩:=u.tbls b ps (by rw [bh q]; exact e);exact ⟨m,by rw [bJ q]; exact y⟩
end
section
variable {X:Cx}{CX:CXT}{k:Nat}{f:Addr}{fd:FuncData}{ps:List Str}{sp:Sp}{cs:List (Addr × Obj)}
theorem zr {pins:List (Addr × Obj)}{σ:St}{H:Hp}{s:Shared}{Q:VK}{us:List Value}{vs:List V}(F:FnOk X.prog X.w X.K X.mg X.base CX k f fd ps sp)(hr:Room k X.A)(hb:aA X.K fd ps [])
 (hx:∀ (H:Hp)(e:Value)(s':Shared),CX X.stack H s (λ_ _ _=>False) e s'->False)
 (I:Inv X pins σ H s)(c:p4 cs H s.heap)(Rr:∀ a v,cs.lookup a=some v->a ∉ df X.stack)(nb:∀ a v,cs.lookup a=some v->X.s₀.heap.objs.size<=a)(r:aK vs us)
 (h:sp vs (c5 cs H) (λv H'=>dM cs H'/\Q v (dG cs H')) λ_ _ _=>False):wpAny (model X.prog X.w) X.A (call (.ref f) us) (EP X pins σ Q) X.xe s:=by
 have hl:us.length=ps.length:=by rw [<-r.length]; exact F.len _ _ _ _ h
 have Fq:=hb s us I.kIn (by rw [List.append_nil]; exact hl);rw [List.append_nil] at Fq
 have out:∀ b,b < X.s₀.heap.objs.size->cs.lookup b=none:=λb hb=>by
  cases q:cs.lookup b with
  | none=>rfl
  | some v=>exact absurd (Nat.lt_of_lt_of_le hb (nb b v q)) (Nat.lt_irrefl _)
 have e0:Env0 X.prog X.w X.K X.mg X.base X.A X.stack s (c5 cs H):=⟨I.ok.frames,I.ok.mod,λb o e=>⟨(I.bs b o e).1,by rw [bh (out b (Nat.lt_of_lt_of_le (Heap.lt_size e) I.ok.bsz))]; exact (I.bs b o e).2⟩,Nat.le_trans I.ok.bsz I.sz,I.stack,λb hb=>by
  cases q:cs.lookup b with
  | none=>rw [bh q]; exact I.stkFree b hb
  | some v=>exact absurd hb (Rr b v q),jD I.hok c,I.bare⟩
 refine wpAny_call (codeAny_mono (F.run X.A X.stack s (c5 cs H) ⟨us,[]⟩ us vs _ _ hr e0 Fq r h) λr s' hq=>?_)
 cases r with
 | error e=>exact (hx _ e s' hq).elim
 | ok fl =>
   cases fl with
   | ret u =>
     obtain ⟨v,H',os,bare,un,hok,rv,HX,q⟩:=hq;exact ⟨v,dG cs H',I.call' (ch:=[]) os (yC un c HX hok Rr) (oq hok HX) bare (λb z=>absurd z (by simp)),rv,q⟩
   | next=>exact False.elim hq
   | brk=>exact False.elim hq
   | cont=>exact False.elim hq
end
structure Leaves (X:Cx)(E:XK):Prop where
 ex:X.ex=[]
 stk:X.stack=X.env :: X.outer
 fr:X.env.frame=some X.env.locals
 xe:X.xe=λe s'=>wpAny (model X.prog X.w) X.A (leaving X.env e) (λ_ HQ=>aV X.prog X.w X.outer X.H₀ X.s₀ E e HQ) (λe' HQ=>aV X.prog X.w X.outer X.H₀ X.s₀ E e' HQ) s'
theorem iC {X:Cx}{E:XK}(L:Leaves X E):dR (aV X.prog X.w) X E:=by
 intro pins σ H1 s1 e s' I hx;obtain ⟨a,cls,a0,B,d,H',rfl,ho,hg,F,hE⟩:=hx;rw [L.xe];have fl:=F.fly;rw [L.stk] at fl;refine yR (L:=X.env.locals) (by rw [I.ok.frames,L.stk]) L.fr fl λGV x1 x2=>?_;exact ⟨a,cls,a0,B,d,H',rfl,ho.trans I.os,hg,wy I L.ex F x1 x2,hE⟩
noncomputable def C3 (P:Program)(w:World)(K:Frag)(mg:Str->Option Value)(base:Heap)(N:List Str)(qual:Str)(scope:Scope)(f:Addr)(cd:Value)(clos:List (Str × Addr))(A:Around)(outer:List Env)(s:Shared)(H:Hp)(E:XK):Cx where
 prog:=P
 w:=w
 K:=K
 mg:=mg
 base:=base
 A:=A.deeper (envX qual scope s.heap.objs.size f cd clos)
 N:=N
 s₀:=s
 H₀:=H
 env:=envX qual scope s.heap.objs.size f cd clos
 outer:=outer
 stack:=envX qual scope s.heap.objs.size f cd clos :: outer
 ex:=[]
 calm:=true
 fn:=λ_=>false
 pn:=[]
 xe:=λe s'=>wpAny (model P w) (A.deeper (envX qual scope s.heap.objs.size f cd clos)) (leaving (envX qual scope s.heap.objs.size f cd clos) e) (λ_ HQ=>aV P w outer H s E e HQ) (λe' HQ=>aV P w outer H s E e' HQ) s'
section
variable {P:Program}{w:World}{K:Frag}{mg:Str->Option Value}{base:Heap}{N:List Str}{qual name:Str}{scope:Scope}{f c':Addr}{clos:List (Str × Addr)}{A:Around}{outer:List Env}{s:Shared}{H:Hp}{E:XK}{Q:VK}
 {params:Arguments}{body:Expr}{pm ctv:Value}{k:Nat}{vs:List V}
theorem gE {cd:Value}:Leaves (C3 P w K mg base N qual scope f cd clos A outer s H E) E:=⟨rfl,rfl,rfl,rfl⟩
theorem zC (hr:Room (k + 1) A)(e0:Env0 P w K mg base A outer s H)(hf:s.heap.get? f=some (kla_obj name qual params body scope clos pm c' ctv))(F7:s.heap.CodeRec (.ref c') qual)
 (F1:bindArgs (kla_fn name qual params body scope clos pm (.ref c') ctv) ⟨[],[]⟩=pure [])(hk:scope.kind = .function)(Lo:scope.isCoroutine=false)(HY:scope.isGenerator=false)(Fu:∀ x∈scope.names,x.2 ≠ .cell)
 (has:∀ x,scope.names.lookup x=some .free->∃ c,clos.lookup x=some c)(inj:∀ x y c,clos.lookup x=some c->clos.lookup y=some c->x=y)
 (JQ:∀ x c,clos.lookup x=some c->H c=none/\∃ v,s.heap.IsCell c v)
 (hN:∀ (i:Nat)(x:Str)(v:V),N[i]?=some x->vs[i]?=some v->scope.names.lookup x=some .free/\∃ c u,clos.lookup x=some c/\aC v u/\s.heap.IsCell c (some u))(hl:vs.length=N.length)
 (Fp:∃ t,PE (C3 P w K mg base N qual scope f (.ref c') clos A outer s H E) body t/\t (vs.map some) H Q):
 codeAny (model P w) A (.call (.ref f) ⟨[],[]⟩) (CR (aV P w) outer P w H s Q E) s:=by
 obtain ⟨t,ht,hq⟩:=Fp;refine kla_callFunE hr.depth hf rfl Lo HY rfl F7 ?_;rw [F1];have lim:s.heap.NoLimit:=e0.mod.nolimit.keeps λb o e=>(e0.bs b o e).1;refine wpAny_pure (wpAny_newFunctionEnv Fu (by intro y hy; simp at hy) (λh₁ JK WA=>⟨lim.fresh _ WA,?_⟩) hk);show codeAny _ _ (.expr body (envX qual scope s.heap.objs.size f (.ref c') clos)) _ _;have Rt:∀ b o,s.heap.get? b=some o->h₁.get? b=some o:=λb o e=>WA.extBut b o (Nat.ne_of_lt (Heap.lt_size e)) (Heap.get?_push_of_some _ e);have Ly:∀ x,scope.names.lookup x≠some .cell:=λx e=>Fu _ (PySem.mem_of_lookup e) rfl
 have I:Inv (C3 P w K mg base N qual scope f (.ref c') clos A outer s H E) [] (vs.map some) H { s with heap:=h₁,toks:=s.toks + ([]:List (Str × Value)).length }:=by
  refine ⟨⟨e0.mod,hk,rfl,rfl,Nat.le_refl _,inj,λx hx=>?_,λx c z _=>absurd (show false=true from z) (by decide),λ_=>hr.hd,Around.frames_deeper e0.frames,.inr ⟨rfl,rfl⟩,λb z=>absurd (show b∈([]:List Addr) from z) (by simp),e0.bs,e0.bsz,
   λb o _ z=>absurd (show b∈([]:List Addr) from z) (by simp),λb z=>absurd (show b∈([]:List Addr) from z) (by simp),e0.funs,e0.frf⟩,
   rfl,e0.bare,Un.kept Rt,⟨_,JK,λi x v e1 e2 e3=>?_⟩,λx c e=>?_,e0.hok.fresh (Nat.le_refl _),λx c e=>(JQ x c e).1,λp hp=>absurd (show p∈([]:List (Addr × Obj)) from hp) (by simp),e0.hok.kept Rt,by rw [List.length_map]; exact hl⟩
  ·have hx:scope.names.lookup x=some .cell\/scope.names.lookup x=some .free:=hx
   rcases hx with z | z
   ·exact absurd z (Ly x)
   ·exact has x z
  ·have Y1:vs[i]?=some v:=by
    rw [List.getElem?_map] at e2
    cases q:vs[i]? with
    | none=>rw [q] at e2; cases e2
    | some z=>rw [q] at e2; cases e2; rfl
   obtain ⟨fr,c,u,hc,r,z⟩:=hN i x v e1 Y1;obtain ⟨o,ho,hd⟩:=z;exact ⟨u,r,.inr ⟨.inr fr,c,hc,o,Rt _ _ ho,hd⟩⟩
  ·obtain ⟨_,v,o,ho,hd⟩:=JQ x c e;exact ⟨v,o,Rt _ _ ho,hd⟩
 refine kla_codeExpr (wpAny_mono (ht [] _ _ H Q I hq) (λv s' ⟨x,H',J,r,q⟩=>?_) λe s' z=>z);exact ⟨x,H',J.os,J.bare,J.base,J.hok,r,q⟩
noncomputable def tY (P:Program)(w:World)(K:Frag)(mg:Str->Option Value)(base:Heap)(k:Nat)(f:Addr)(φ:Hp->VK->XK->Prop):Prop :=
 (∀ H h Q E,eG P w H h->φ H Q E->FnAt f h)/\∀ (A:Around)(outer:List Env)(s:Shared)(H:Hp)(Q:VK)(E:XK),Room k A->Env0 P w K mg base A outer s H->φ H Q E->codeAny (model P w) A (.call (.ref f) ⟨[],[]⟩) (CR (aV P w) outer P w H s Q E) s
end
section
variable {X:Cx}{k i:Nat}{x:Str}{p pos:Pos}{E:St->XK}
noncomputable def wU (P:Program)(w:World)(K:Frag)(mg:Str->Option Value)(base:Heap)(k i:Nat)(E:St->XK):TE:=λσ H Q=>∃ f φ,σ[i]?=some (some (.ref f))/\tY P w K mg base k f φ/\φ H Q (E σ)
theorem yq (hr:Room k X.A)(hx:∀ (pins:List (Addr × Obj))(σ:St)(H:Hp)(s:Shared)(e:Value)(s':Shared),Inv X pins σ H s->aV X.prog X.w X.stack H s (E σ) e s'->X.xe e s')(hv:PE X (.Name x p) (gH i)):
 PE X (.Call (.Name x p) [] [] pos) (wU X.prog X.w X.K X.mg X.base k i E):=by
 intro pins s σ H Q I h;obtain ⟨f,φ,ef,C,q⟩:=h;refine wpAny_Call_Name_kw (bR (hv pins s σ H (λv H1=>v = .ref f/\H1=H) I ⟨_,ef,rfl,rfl⟩) λv s1 ⟨y,H1,I1,r1,ey,eh⟩=>?_);subst ey eh
 cases (show v=Value.ref f from r1)
 refine callWith_F0 (C.1 _ _ _ _ I1.hok q) ?_;refine wpAny_call (codeAny_mono (C.2 X.A X.stack s1 _ Q (E σ) hr I1.env0 q) λr s' hq=>?_)
 cases r with
 | error e=>exact hx pins σ _ s1 e s' I1 hq
 | ok fl =>
   cases fl with
   | ret u=>exact I1.after hq
   | next=>exact False.elim hq
   | brk=>exact False.elim hq
   | cont=>exact False.elim hq
end
section
variable {P:Program}{w:World}{K:Frag}{mg:Str->Option Value}{base:Heap}{N:List Str}{qual name:Str}{scope:Scope}{f c':Addr}{clos:List (Str × Addr)}{params:Arguments}{body:Expr}{pm ctv:Value}{k:Nat}{vs:List V}{cs:List (Addr × Obj)}{oc:Obj}
noncomputable def Jv (f c':Addr)(fo oc:Obj)(cs:List (Addr × Obj))(φ0:Hp->VK->XK->Prop):Hp->VK->XK->Prop:=λH Q E=>H f=some (cN f fo)/\H c'=some (cN c' oc)/\dM cs H/\φ0 (dG cs H) (λv H'=>Q v (c5 cs H')) λcls d H'=>E cls d (c5 cs H')
theorem uK {φ0:Hp->VK->XK->Prop}(F1:bindArgs (kla_fn name qual params body scope clos pm (.ref c') ctv) ⟨[],[]⟩=pure [])(hk:scope.kind = .function)(Lo:scope.isCoroutine=false)(HY:scope.isGenerator=false)(Fu:∀ x∈scope.names,x.2 ≠ .cell)
 (has:∀ x,scope.names.lookup x=some .free->∃ c,clos.lookup x=some c)(inj:∀ x y c,clos.lookup x=some c->clos.lookup y=some c->x=y)(Fy:∃ ws t,oc.data = .fields ws/\ws[1]?=some (.str qual t))
 (HK:∀ x c,clos.lookup x=some c->∃ o v,cs.lookup c=some o/\o.data = .cell v)
 (hN:∀ (i:Nat)(x:Str)(v:V),N[i]?=some x->vs[i]?=some v->scope.names.lookup x=some .free/\∃ c o u,clos.lookup x=some c/\cs.lookup c=some o/\o.data = .cell (some u)/\aC v u)(hl:vs.length=N.length)
 (Fp:∀ (A:Around)(outer:List Env)(s:Shared)(H:Hp)(Q:VK)(E:XK),Room k (A.deeper (envX qual scope s.heap.objs.size f (.ref c') clos))->φ0 H Q E->∃ t,PE (C3 P w K mg base N qual scope f (.ref c') clos A outer s H E) body t/\t (vs.map some) H Q):
 tY P w K mg base (k + 1) f (Jv f c' (kla_obj name qual params body scope clos pm c' ctv) oc cs φ0):=by
 refine ⟨λH h Q E hok q=>?_,λA outer s H Q E hr e0 q=>?_⟩
 ·have e:h.get? f=some _:=(hok f _ q.1).1;exact ⟨_,_,_,_,e⟩
 ·obtain ⟨qf,qc,qi,q0⟩:=q;have ef:s.heap.get? f=some _:=(e0.hok f _ qf).1;have ec:s.heap.get? c'=some oc:=(e0.hok c' _ qc).1;have at_:∀ c o,cs.lookup c=some o->s.heap.get? c=some o:=λc o e=>(e0.hok c _ (qi c o e)).1
  have WC:∀ c o,cs.lookup c=some o->c ∉ df outer:=λc o e hb=>by
   have:=e0.frf c hb;rw [qi c o e] at this
   cases this
  have Gf:∀ b,H b=none->dG cs H b=none:=λb n=>by
   cases q:cs.lookup b with
   | some v=>exact d9 q
   | none=>rw [bJ q]; exact n
  have e1:Env0 P w K mg base A outer s (dG cs H):=⟨e0.frames,e0.mod,λb o e=>⟨(e0.bs b o e).1,Gf b (e0.bs b o e).2⟩,e0.bsz,e0.funs,λb hb=>Gf b (e0.frf b hb),oq e0.hok qi,e0.bare⟩;obtain ⟨ws,t,d1,d2⟩:=Fy;have JR:∀ {H':Hp}{h':Heap},Un (df outer) [] (dG cs H) H' s.heap h'->∀ a o,cs.lookup a=some o->H' a=none:=λu a o e=>u.free a o (at_ a o e) (d9 e) (by simp);refine codeAny_mono (zC (c':=c') (clos:=clos) (N:=N) (vs:=vs) hr e1 ef ⟨c',oc,ws,t,rfl,ec,d1,d2⟩ F1 hk Lo HY Fu has inj (λx c e=>?_) (λi x v a b=>?_) hl (Fp A outer s _ _ _ (hr.deeper _) q0)) λr s' hq=>?_
  ·obtain ⟨o,v,e2,d⟩:=HK x c e;exact ⟨d9 e2,v,o,at_ c o e2,d⟩
  ·obtain ⟨fr,c,o,u,z1,z2,z3,z4⟩:=hN i x v a b;exact ⟨fr,c,u,z1,z4,o,at_ c o z2,z3⟩
  ·cases r with
   | error e =>
     obtain ⟨a,cls,a0,B,d,H',rfl,os,bare,F,hE⟩:=hq;have hB:∀ c o,cs.lookup c=some o->B.get? c=some o:=λc o e=>F.keep c o (at_ c o e) (d9 e) (WC c o e);have hH:∀ c o,cs.lookup c=some o->H' c=none:=JR F.un;refine ⟨a,cls,a0,B,d,c5 cs H',rfl,os,bare,⟨F.fly,rV F.un qi hH,λb o e n hb=>F.keep b o e (Gf b n) hb,F.there,jD F.hok λc o e=>⟨hH c o e,hB c o e⟩,?_⟩,hE⟩
     have na:cs.lookup a=none:=by
      cases q:cs.lookup a with
      | none=>rfl
      | some o =>
        have:=hB a o q;rw [F.fly.new] at this
        cases this
     rw [bh na];exact F.new
   | ok fl =>
     cases fl with
     | ret u =>
       obtain ⟨v,H',os,bare,un,hok,rv,q⟩:=hq;have hH:=JR un;exact ⟨v,c5 cs H',os,bare,rV un qi hH,jD hok λc o e=>⟨hH c o e,un.keep c o (at_ c o e) (d9 e) (WC c o e) (by simp)⟩,rv,q⟩
     | next=>exact False.elim hq
     | brk=>exact False.elim hq
     | cont=>exact False.elim hq
end
section
variable {X:Cx}{params:Arguments}{body:Expr}{scope osc:Scope}{pos:Pos}{cc Pt:Addr}
structure MkFn (X:Cx)(cc Pt:Addr):Prop where
 code:X.env.code = .ref cc
 hd:CodeHd X.base cc Pt
 bm:∃ bm ob,X.mg "__builtins__"=some (.ref bm)/\bm≠builtinsNs/\X.base.get? bm=some ob/\ob.cls = .type "module"/\ob.dict=some builtinsNs/\ob.data = .plain
noncomputable abbrev fK (X:Cx)(params:Arguments)(body:Expr)(scope:Scope)(c':Addr)(ctv:Value):Obj:=kla_obj "<lambda>" (X.env.qual++"<lambda>") params body scope (dA scope.names X.env) ((X.mg "__name__").getD .none) c' ctv
noncomputable def di (q:Str)(oc:Obj):Prop:=∃ ws t,oc.data = .fields ws/\ws[1]?=some (.str q t)
noncomputable def Ds (X:Cx)(params:Arguments)(body:Expr)(scope:Scope)(pos:Pos)(Pt:Addr):TE:=λ_ H Q=>∃ ps,H Pt=some (.tbl ps)/\TriplesOk ps.toList /\
 ((codeAmong pos ps.toList=none/\∀ c' f oc ctv,H c'=none->H f=none->c'≠f->di (X.env.qual++"<lambda>") oc →
  Q (.ref f) (upd (upd (upd H Pt (.tbl (ps++#[rawInt pos.line,rawInt pos.col,.ref c']))) c' (cN c' oc)) f (cN f (fK X params body scope c' ctv)))) \/
  ∃ c' oc,codeAmong pos ps.toList=some (.ref c')/\H c'=some (cN c' oc)/\di (X.env.qual++"<lambda>") oc/\∀ f ctv,H f=none->Q (.ref f) (upd H f (cN f (fK X params body scope c' ctv))))
theorem ix (M:MkFn X cc Pt)(SO:X.env.scope=osc)(Fz:∀ y∈scope.names,y.2 = .free->osc.names.lookup y.1=some .cell\/osc.names.lookup y.1=some .free)(SQ:defaultsOf params X.env=([],[])):
 PE X (.Lambda params body scope pos) (Ds X params body scope pos Pt):=by
 intro pins s σ H Q I h;obtain ⟨ps,hP,ht,h⟩:=h
 have JQ:closureFor scope X.env=pure (dA scope.names X.env):=gc λy hy hf=>by
  have z:=Fz y hy hf;rw [<-SO] at z;exact I.ok.has y.1 z
 have eP:s.heap.get? Pt=some (tabObj ps):=I.hok Pt _ hP;have hg:s.heap.Ns mainGlobals X.mg:=I.mod.glob.keeps I.bk
 have Y2:mainGlobals≠Pt:=λq=>by
  obtain ⟨o,es,ep,e,hd,_⟩:=hg;rw [q,eP] at e
  cases e
  cases hd
 obtain ⟨bm,ob,b1,b2,b3,b4,b5,b6⟩:=M.bm
 have WD:bm≠Pt:=λq=>by
  have e:=I.bk _ _ b3;rw [q,eP] at e
  cases e
  cases b4
 have WE:bm≠mainGlobals:=λq=>by
  obtain ⟨o,es,ep,e,hd,_⟩:=hg;rw [<-q,I.bk _ _ b3] at e
  cases e
  rw [b6] at hd
  cases hd
 have C:=M.hd.keeps I.bk
 have nP:∀ b,H b=none->b≠Pt:=λb n z=>by rw [z,hP] at n; cases n
 refine kla_eval SQ ?_
 rcases h with ⟨hn,q⟩ | ⟨c',oc,hf,Fi,ho,q⟩
 ·refine kla_makeFunction (mg:=X.mg) JQ I.ok.glob hg M.code C eP ht hn Y2 ⟨bm,ob,b1,b2,WE,WD,I.bk _ _ b3,b4,b5,b6⟩ λc' ctv h' tk hx SR Fd SS Hl=>?_;obtain ⟨c2,oc,ws,t,e2,Fy,hd,hv⟩:=SS
  cases e2
  have hsz:s.heap.objs.size<=h'.objs.size:=Nat.le_trans SR (Nat.le_of_lt Fd);have fc:H c'=none:=I.hok.fresh SR;have ff:H h'.objs.size=none:=I.hok.fresh hsz;have Y3:c'≠h'.objs.size:=Nat.ne_of_lt Fd;have old:∀ b o,b≠Pt->s.heap.get? b=some o->(h'.push (fK X params body scope c' ctv)).get? b=some o:=λb o n e=>Heap.get?_push_of_some _ (hx b o n e);have lt:∀ b o,s.heap.get? b=some o->b≠c'/\b≠h'.objs.size:=λb o e=>⟨Nat.ne_of_lt (Nat.lt_of_lt_of_le (Heap.lt_size e) SR),Nat.ne_of_lt (Nat.lt_of_lt_of_le (Heap.lt_size e) hsz)⟩;have P1:Pt≠c':=(lt _ _ eP).1;have P2:Pt≠h'.objs.size:=(lt _ _ eP).2
  have nH:∀ b o,H b=some o->b≠Pt->(upd (upd (upd H Pt (.tbl (ps++#[rawInt pos.line,rawInt pos.col,.ref c']))) c' (cN c' oc)) h'.objs.size (cN h'.objs.size (fK X params body scope c' ctv))) b=some o:=λb o e n=>by
   obtain ⟨ob,eb⟩:=(I.hok b o e).there;rw [ao (lt b ob eb).2,ao (lt b ob eb).1,ao n];exact e
  refine ⟨.ref h'.objs.size,_,I.un (t':=tk) (H':=upd (upd (upd H Pt (.tbl (ps++#[rawInt pos.line,rawInt pos.col,.ref c']))) c' (cN c' oc)) h'.objs.size (cN h'.objs.size (fK X params body scope c' ctv))) ?_ ?_,rfl,q c' h'.objs.size oc ctv fc ff Y3 ⟨ws,t,hd,hv⟩⟩
  ·refine ⟨λb o e n _ _=>old b o (nP b n) e,λb o e n _ _=>⟨o.slots,old b o (nP b n) e⟩,λb o e n _=>?_,λb o e _=>?_,λb xs e=>nH b _ e (λz=>by rw [z,hP] at e; cases e),λb o u e=>nH b _ e (λz=>by rw [z,hP] at e; cases e),λb rs e=>?_⟩
   ·rw [ao (lt b o e).2,ao (lt b o e).1,ao (nP b n)]; exact n
   ·by_cases z:b=Pt
    ·exact ⟨_,by rw [z]; exact Heap.get?_push_of_some _ Hl⟩
    ·exact ⟨o,old b o z e⟩
   ·by_cases z:b=Pt
    ·rw [z,hP] at e
     cases e
     exact ⟨_,by rw [z,ao P2,ao P1,ah]⟩
    ·exact ⟨#[],by rw [nH b _ e z]; simp⟩
  ·intro b o e
   by_cases z1:b=h'.objs.size
   ·subst z1;rw [ah] at e
    cases e
    exact jg (Heap.get?_push_size _ rfl)
   ·rw [ao z1] at e
    by_cases z2:b=c'
    ·subst z2;rw [ah] at e
     cases e
     exact jg (Heap.get?_push_of_some _ Fy)
    ·rw [ao z2] at e
     by_cases z3:b=Pt
     ·subst z3;rw [ah] at e
      cases e
      exact Heap.get?_push_of_some _ Hl
     ·rw [ao z3] at e
      refine (I.hok b o e).stay (λc v hc q=>old c v (λz=>?_) q) (λc q=>nH c _ q λz=>by rw [z,hP] at q; cases q) λc xs q=>nH c _ q λz=>by rw [z,hP] at q; cases q
      rcases hc with hc | hc
      ·exact z3 (hc ▸ z)
      ·rw [z,hP] at hc; cases hc
 ·refine kla_makeFunctionHit (mg:=X.mg) JQ I.ok.glob hg M.code C eP ht hf ⟨bm,ob,b1,b2,WE,WD,I.bk _ _ b3,b4,b5,b6⟩ λctv h' tk hk hsz=>?_;have ff:H h'.objs.size=none:=I.hok.fresh hsz;refine ⟨.ref h'.objs.size,_,I.laid (t':=tk) (λb u e=>Heap.get?_push_of_some _ (hk b u e)) hsz (jg (Heap.get?_push_size _ rfl)),rfl,q _ ctv ff⟩
end
noncomputable def vX (tabs:List (Addr × Addr))(H:Hp):Prop:=(∀ b,H b=none\/(∃ o xs,H b=some (.frz o (.lst xs)))\/(H b=some (.tbl #[])/\∃ c,(c,b)∈tabs))/\∀ q∈tabs,H q.2=some (.tbl #[])
structure BaseT (tabs:List (Addr × Addr))(mg:Str->Option Value)(base:Heap):Prop where
 hd:∀ q∈tabs,CodeHd base q.1 q.2
 bm:∃ bm ob,mg "__builtins__"=some (.ref bm)/\bm≠builtinsNs/\base.get? bm=some ob/\ob.cls = .type "module"/\ob.dict=some builtinsNs/\ob.data = .plain
theorem uv {P:Program}{w:World}{K:Frag}{mg mb:Str->Option Value}{CX:CXT}{k:Nat}{fa a:Addr}{fd:FuncData}{x:Str}{sp:Sp}{s₁:Shared}{vs:List Value}{ns:List Int}{tabs:List (Addr × Addr)}
 (KX:K.In s₁.heap)(JK:s₁.heap.Ns mainGlobals mg)(hb:s₁.heap.Ns builtinsNs mb)(Y4:∀ x:Str,x ≠ "__name__"->mb x=bootBuiltins x)(SU:s₁.heap.NoLimit)(hg:s₁.gens = #[])
 (ha:s₁.heap.get? a=some { cls:=.type "list",data:=.seq vs.toArray })(hi:IntsAre vs ns)(hl:ns.length<=sizeLine)(hr:Room k callerA)(hT:TabsAt tabs s₁.heap)(Y5:∀ q∈tabs,K.lookup q.2=none)
 (Y6:∃ bm ob,mg "__builtins__"=some (.ref bm)/\bm≠builtinsNs/\s₁.heap.get? bm=some ob/\ob.cls = .type "module"/\ob.dict=some builtinsNs/\ob.data = .plain)
 (F:∀ base:Heap,K.In base->base.Ns mainGlobals mg->BaseT tabs mg base->FnOk P w K mg base CX k fa fd [x] sp)(F1:∀ (s:Shared)(u:Value),BindsTo s fd ⟨[u],[]⟩ [(x,u)])
 (Hh:∀ H:Hp,vX tabs H->bu K H a (ns.map V.int)->sp [.ref a] H (λv _=>v = .bl true) λ_ _ _=>False)
 (SV:∀ H e s',CX [] H s₁ (λ_ _ _=>False) e s'->False):
 codeAny (model P w) callerA (.call (.ref fa) ⟨[.ref a],[]⟩) (λr s'=>r = .ok (.ret (.bool true))/\OldK s₁.heap s'.heap/\s'.os=s₁.os/\AllBare s'.gens) s₁:=by
 have rv:=lI hi;have SW:=hi.length;have ie:∀ b,(∃ c,(c,b)∈tabs)->s₁.heap.get? b=some (tabObj #[]):=λb ⟨c,hc⟩=>(hT _ hc).2
 have core:∀ H:Hp,vX tabs H->bu K H a (ns.map V.int)->eG P w H s₁.heap->(∀ b,H b≠none->b=a\/∃ c,(c,b)∈tabs)->(H a≠none->K.lookup a=none) →
  codeAny (model P w) callerA (.call (.ref fa) ⟨[.ref a],[]⟩) (λr s'=>r = .ok (.ret (.bool true))/\OldK s₁.heap s'.heap/\s'.os=s₁.os/\AllBare s'.gens) s₁:=by
  intro H hO hS hok hA hK;have base_of:∀ {b:Addr}{o:Obj},s₁.heap.get? b=some o->H b=none->(kU s₁.heap H).get? b=some o:=λe n=>xI e n
  have WG:∀ {b:Addr}{o:Obj},s₁.heap.get? b=some o->o.cls ≠ .none->(∀ its n,o.data ≠ .seq its n)->H b=none:=λ{b o} e d1 d2=>by
   cases q:H b with
   | none=>rfl
   | some u =>
     rcases hA b (by rw [q]; simp) with e' | e'
     ·subst e';rw [ha] at e; cases e;exact absurd rfl (d2 _ _)
     ·rw [ie b e'] at e; cases e;exact absurd rfl d1
  have M5:∀ {b:Addr}{o:Obj}{es:Array DictEntry}{ep:Nat},s₁.heap.get? b=some o->o.data = .dict es ep->H b=none:=λ{b o es ep} e d=>by
   cases q:H b with
   | none=>rfl
   | some u =>
     rcases hA b (by rw [q]; simp) with e' | e'
     ·subst e';rw [ha] at e; cases e;have d':Data.seq vs.toArray _=Data.dict es ep:=d
      cases d'
     ·rw [ie b e'] at e; cases e;have d':Data.fields #[]=Data.dict es ep:=d
      cases d'
  have Ru:∀ {b:Addr}{m:Str->Option Value},s₁.heap.Ns b m->(kU s₁.heap H).Ns b m:=λ{b m} ⟨o,es,ep,e,d,r⟩=>⟨o,es,ep,base_of e (M5 e d),d,r⟩
  have WH:K.In (kU s₁.heap H):=λb o e=>base_of (KX b o e) (by
   cases q:H b with
   | none=>rfl
   | some u =>
     rcases hA b (by rw [q]; simp) with e' | ⟨c,e'⟩
     ·subst e';rw [hK (by rw [q]; simp)] at e; cases e
     ·have z:=Y5 _ e'
      rw [z] at e; cases e)
  have hM:Mod K mg (kU s₁.heap H):=⟨WH,Ru JK,⟨mb,Ru hb,Y4⟩,let ⟨mc,h1,h2⟩:=SU; ⟨mc,Ru h1,h2⟩⟩
  have Y7:BaseT tabs mg (kU s₁.heap H):=by
   refine ⟨λq hq=>?_,?_⟩
   ·obtain ⟨o,ws,file,tf,flags,tg,Y8,text,tt,e1,r1,r2,r3⟩:=(hT q hq).1;exact ⟨o,ws,file,tf,flags,tg,Y8,text,tt,base_of e1 (WG e1 (by rw [r1]; intro z; cases z) (λits n z=>by rw [r2] at z; cases z)),r1,r2,r3⟩
   ·obtain ⟨bm,ob,b1,b2,b3,b4,b5,b6⟩:=Y6;exact ⟨bm,ob,b1,b2,base_of b3 (WG b3 (by rw [b4]; intro z; cases z) (λits n z=>by rw [b6] at z; cases z)),b4,b5,b6⟩
  have e0:Env0 P w K mg (kU s₁.heap H) callerA [] s₁ H:=⟨rfl,hM,λb o e=>zS e,Nat.le_of_eq (uw _ _),trivial,λb hb=>absurd (show b∈([]:List Addr) from hb) (by simp),hok,.of_eq hg⟩;refine codeAny_mono ((F _ WH (Ru JK) Y7).run callerA [] s₁ H ⟨[.ref a],[]⟩ [.ref a] [.ref a] _ _ hr e0 (F1 s₁ (.ref a)) (.cons rfl .nil) (Hh H hO hS)) λr s' h=>?_
  cases r with
  | error e=>exact (SV H e s' h).elim
  | ok fl =>
    cases fl with
    | next=>exact False.elim h
    | brk=>exact False.elim h
    | cont=>exact False.elim h
    | ret u =>
      obtain ⟨v,H',os,bare,un,Nq,r',q⟩:=h;have q':v = .bl true:=q;subst q';obtain rfl:u=Value.bool true:=r';refine ⟨rfl,⟨λb o e=>?_,λb o e=>un.there b o e (by simp)⟩,os,bare⟩
      cases q:H b with
      | none=>exact .inl (un.keep b o e q (by intro z; exact absurd (show b∈([]:List Addr) from z) (by simp)) (by simp))
      | some u =>
        rcases hO.1 b with z | ⟨ob,xs,z⟩ | ⟨z,c,hc⟩
        ·rw [q] at z; cases z
        ·have z2:=un.frzs b ob _ z;obtain ⟨e1,_⟩:=hok b _ z;obtain ⟨e2,_⟩:=Nq b _ z2;rw [e] at e1; cases e1;exact .inl e2
        ·obtain ⟨more,z2⟩:=un.tbls b _ z;have e2:s'.heap.get? b=some { cls:=.none,data:=.fields (#[]++more) }:=Nq b _ z2;have e1:=ie b ⟨c,hc⟩;rw [e] at e1; cases e1;exact .inr (.inl ⟨((hT _ hc).1.tab (hT _ hc).2).isCodeTable,rfl,#[],more,rfl,e2⟩)
 have aT:∀ c,(c,a) ∉ tabs:=λc hc=>by
  have z:=ie a ⟨c,hc⟩;rw [ha] at z
  cases z
 have Nr:∀ b,Decidable (∃ c,(c,b)∈tabs):=λb=>Classical.propDecidable _
 cases hk:K.lookup a with
 | some o =>
   have e:=KX a o hk;rw [ha] at e
   cases e
   refine core (λb=>@ite _ (∃ c,(c,b)∈tabs) (Nr b) (some (.tbl #[])) none) ⟨λb=>?_,λq hq=>?_⟩ (.inr ⟨_,vs.toArray,_,hk,rfl,rfl,rfl,by rw [List.size_toArray,SW]; exact hl,by simpa using rv⟩) (λb u z=>?_) (λb z=>?_) λz=>?_
   ·by_cases hb:∃ c,(c,b)∈tabs
    ·exact .inr (.inr ⟨if_pos hb,hb⟩)
    ·exact .inl (if_neg hb)
   ·exact if_pos ⟨q.1,hq⟩
   ·by_cases hb:∃ c,(c,b)∈tabs
    ·have z':=(if_pos hb).symm.trans z
     cases z'
     exact ie b hb
    ·have z':=(if_neg hb).symm.trans z
     cases z'
   ·by_cases hb:∃ c,(c,b)∈tabs
    ·exact .inr hb
    ·exact absurd (if_neg hb) z
   ·exact absurd (if_neg λ⟨c,hc⟩=>aT c hc) z
 | none =>
   refine core (λb=>if b=a then some (.frz { cls:=.type "list",data:=.seq vs.toArray } (.lst (ns.map V.int))) else @ite _ (∃ c,(c,b)∈tabs) (Nr b) (some (.tbl #[])) none) ⟨λb=>?_,λq hq=>?_⟩ (.inl (.inr ⟨{ cls:=.type "list",data:=.seq vs.toArray },if_pos rfl⟩)) (λb u z=>?_) (λb z=>?_) λ_=>hk
   ·by_cases hb:b=a
    ·exact .inr (.inl ⟨_,_,if_pos hb⟩)
    ·by_cases ht:∃ c,(c,b)∈tabs
     ·exact .inr (.inr ⟨(if_neg hb).trans (if_pos ht),ht⟩)
     ·exact .inl ((if_neg hb).trans (if_neg ht))
   ·have hb:q.2≠a:=λz=>aT q.1 (by rw [<-z]; exact hq);exact (if_neg hb).trans (if_pos ⟨q.1,hq⟩)
   ·by_cases hb:b=a
    ·have z':=(if_pos hb).symm.trans z
     cases z'
     subst hb;exact ⟨ha,by rw [List.length_map]; exact hl,vs,_,rv,ha⟩
    ·have z':=(if_neg hb).symm.trans z
     by_cases ht:∃ c,(c,b)∈tabs
     ·have z2:=(if_pos ht).symm.trans z'
      cases z2
      exact ie b ht
     ·have z2:=(if_neg ht).symm.trans z'
      cases z2
   ·by_cases hb:b=a
    ·exact .inl hb
    ·by_cases ht:∃ c,(c,b)∈tabs
     ·exact .inr ht
     ·exact absurd ((if_neg hb).trans (if_neg ht)) z
structure FunD (K:Frag)(x qual:Str)(st:Stmt)(f:Addr)(fd:FuncData)(T:Addr):Prop where
 ex:∃ (oc:Value)(od:Option Addr)(kV doc pm:Value)(an:Option Addr)(Fb ct:Value)(Fo:Array (Option Value)),
  fd=fnOf x qual (cg st) (bz st) (aq st) (.ref T) kV doc pm an Fb ct/\K.lookup f=some ⟨oc,od,.func fd,Fo⟩/\codeIn K Fb qual=true
 kp:keepIn K (.ref f)=true
section
variable {P:Program}{w:World}{K:Frag}{mg:Str->Option Value}{base:Heap}
theorem FunD.okE {x qual:Str}{st:Stmt}{f T:Addr}{fd:FuncData}{N ps:List Str}{k:Nat}{sp:Sp}(F:FunD K x qual st f fd T)(S:FnScope N ps (aq st))(len:∀ vs H Q E,sp vs H Q E->vs.length=ps.length)
 (Fp:∀ (Fb:Value)(A:Around)(outer:List Env)(s:Shared)(H:Hp)(vs:List V)(Q:VK)(E:XK),Room k (A.deeper (envOfC qual (aq st) s.heap.objs.size f Fb))->sp vs H Q E →
  ∃ t,iX (fB (aV P w) P w K mg base N qual (aq st) f Fb A outer s H E) (bz st) t/\t { nx:=λ_ H'=>Q .non H',rt:=Q } (fF N vs) H):FnOk P w K mg base (aV P w) (k + 1) f fd ps sp:=by
 obtain ⟨oc,od,kV,doc,pm,an,Fb,ct,Fo,rfl,lk,F7⟩:=F.ex;exact tH lk F7 S len λA outer s H vs Q E hr Hh=>Fp Fb A outer s H vs Q E hr Hh
theorem zU {x qual:Str}{st:Stmt}{f T:Addr}{oc:Value}{od an:Option Addr}{Fo:Array (Option Value)}{kV doc pm Fb ct:Value}(l:K.lookup f=some ⟨oc,od,.func (fnOf x qual (cg st) (bz st) (aq st) (.ref T) kV doc pm an Fb ct),Fo⟩)
 (c:codeIn K Fb qual=true)(k:keepIn K (.ref f)=true):FunD K x qual st f (fnOf x qual (cg st) (bz st) (aq st) (.ref T) kV doc pm an Fb ct) T:=⟨⟨oc,od,kV,doc,pm,an,Fb,ct,Fo,rfl,l,c⟩,k⟩
end
noncomputable def fu (X:Cx)(y:Str):Addr:=(X.env.cells.lookup y).getD 0
noncomputable def gG:Expr->Bool
 | .Starred _ _=>true
 | _=>false
theorem bX {e:Expr}{rest:List Expr}{env:Env}(h:gG e=false):starEach (e :: rest) env=(false,eval e env):: starEach rest env:=by
 rw [starEach];intro e' p z;subst z
 cases h
section
variable {X:Cx}{e:Expr}{es:List Expr}{te:TE}{t:TA}
theorem ai (ha:PE X e te)(hr:PA X es t)(h:gG e=false:=by rfl):PA X (e :: es) (dZ te t):=aO ha hr (bX h)
end
inductive D where
 | non | bl (b:Bool) | int (i:Int) | str (x:Str) | lst (ds:List D) | tup (ds:List D)
mutual
noncomputable def aL (K:Frag)(H:Hp):D->V->Prop
 | .non,v=>v = .non
 | .bl b,v=>v = .bl b
 | .int i,v=>v = .int i
 | .str x,v=>v = .str x
 | .lst ds,v=>∃ a xs,v = .ref a/\bu K H a xs/\bq K H ds xs
 | .tup ds,v=>∃ a xs,v = .ref a/\a9 K H a xs/\bq K H ds xs
noncomputable def bq (K:Frag)(H:Hp):List D->List V->Prop
 | [],xs=>xs=[]
 | d :: ds,xs=>∃ y ys,xs=y :: ys/\aL K H d y/\bq K H ds ys
end
mutual
noncomputable def dU:D->D->Bool
 | .non,.non=>true
 | .bl a,.bl b=>a == b
 | .bl a,.int b=>(if a then 1 else 0) == b
 | .int a,.bl b=>a == (if b then 1 else 0)
 | .int a,.int b=>a == b
 | .str a,.str b=>a == b
 | .lst a,.lst b=>dk a b
 | .tup a,.tup b=>dk a b
 | _,_=>false
noncomputable def dk:List D->List D->Bool
 | [],[]=>true
 | a :: as,b :: bs=>dU a b&&dk as bs
 | _,_=>false
end
mutual
noncomputable def jd:D->Nat
 | .lst ds=>eF ds + 1
 | .tup ds=>eF ds + 1
 | _=>0
noncomputable def eF:List D->Nat
 | []=>0
 | d :: ds=>max (jd d) (eF ds)
end
theorem tK:∀ {ds:List D}{d:D},d∈ds->jd d<=eF ds
 | e :: ds,d,h=>by
   unfold eF
   rcases List.mem_cons.mp h with rfl | h
   ·exact Nat.le_max_left _ _
   ·exact Nat.le_trans (tK h) (Nat.le_max_right _ _)
theorem gD:∀ (as bs:List D),dk as bs=((List.range (min as.length bs.length)).all (λj=>dU (as.getD j .non) (bs.getD j .non))&&as.length == bs.length)
 | [],[]=>rfl
 | [],b :: bs=>by simp [dk]
 | a :: as,[]=>by simp [dk]
 | a :: as,b :: bs=>by
   unfold dk;rw [gD as bs]
   have e:min (a :: as).length (b :: bs).length=min as.length bs.length + 1:=by simp [Nat.succ_min_succ]
   rw [e,List.range_succ_eq_map,List.all_cons,List.all_map]
   have h1:((a :: as).length == (b :: bs).length)=(as.length == bs.length):=by simp
   rw [h1,Bool.and_assoc];rfl
theorem bq.len {K:Frag}{H:Hp}:∀ {ds:List D}{xs:List V},bq K H ds xs->ds.length=xs.length
 | [],xs,h=>by
   have h:xs=[]:=by unfold bq at h; exact h
   rw [h];rfl
 | d :: ds,xs,h=>by
   unfold bq at h;obtain ⟨y,ys,rfl,_,h⟩:=h;simp [bq.len h]
theorem bq.get {K:Frag}{H:Hp}:∀ {ds:List D}{xs:List V}{j:Nat}(hj:j < xs.length),bq K H ds xs->aL K H (ds.getD j .non) xs[j]/\ds.getD j .non∈ds
 | [],xs,j,hj,h=>by
   have h:xs=[]:=by unfold bq at h; exact h
   subst h;exact absurd hj (by simp)
 | d :: ds,xs,j,hj,h=>by
   unfold bq at h;obtain ⟨y,ys,rfl,hd,h⟩:=h
   cases j with
   | zero=>exact ⟨hd,List.mem_cons_self⟩
   | succ j =>
     obtain ⟨h1,h2⟩:=bq.get (j:=j) (by simpa using hj) h;exact ⟨h1,List.mem_cons_of_mem _ h2⟩
mutual
theorem dS:∀ d:D,dU d d=true
 | .non=>rfl
 | .bl b=>by unfold dU; simp
 | .int i=>by unfold dU; simp
 | .str x=>by unfold dU; simp
 | .lst ds=>by unfold dU; exact iA ds
 | .tup ds=>by unfold dU; exact iA ds
theorem iA:∀ ds:List D,dk ds ds=true
 | []=>rfl
 | d :: ds=>by unfold dk; rw [dS d,iA ds]; rfl
end
section
variable {X:Cx}{pins:List (Addr × Obj)}{σ:St}{H:Hp}{s:Shared}
theorem fP (I:Inv X pins σ H s){a:Addr}{xs ys:List V}(h1:bu X.K H a xs)(h2:a9 X.K H a ys):False:=by
 obtain ⟨its,_,p1,_⟩:=I.list h1;obtain ⟨Fe,_,p2,_⟩:=I.tuple h2;exact SeqAt.ne_of_list_tuple p1.isList (show s.heap.IsTuple a Fe.toArray from p2) rfl
mutual
theorem ky (I:Inv X pins σ H s):∀ (d e:D)(v:V),aL X.K H d v->aL X.K H e v->dU d e=true
 | .non,e,v,h1,h2=>by
   unfold aL at h1;subst h1
   cases e <;> unfold aL at h2 <;> first | (obtain ⟨_,_,z,_⟩:=h2; cases z; done) | rfl | (cases h2; done)
 | .bl b,e,v,h1,h2=>by
   unfold aL at h1;subst h1
   cases e <;> unfold aL at h2 <;> first | (obtain ⟨_,_,z,_⟩:=h2; cases z; done) | (cases h2; exact dS _) | (cases h2; done)
 | .int b,e,v,h1,h2=>by
   unfold aL at h1;subst h1
   cases e <;> unfold aL at h2 <;> first | (obtain ⟨_,_,z,_⟩:=h2; cases z; done) | (cases h2; exact dS _) | (cases h2; done)
 | .str b,e,v,h1,h2=>by
   unfold aL at h1;subst h1
   cases e <;> unfold aL at h2 <;> first | (obtain ⟨_,_,z,_⟩:=h2; cases z; done) | (cases h2; exact dS _) | (cases h2; done)
 | .lst ds,e,v,h1,h2=>by
   unfold aL at h1;obtain ⟨a,xs,rfl,q,r⟩:=h1
   cases e with
   | lst es =>
     unfold aL at h2;obtain ⟨b,ys,z,q2,r2⟩:=h2
     cases z
     have e:=I.list_inj q q2;subst e;unfold dU;exact iJ I ds es xs r r2
   | tup es =>
     unfold aL at h2;obtain ⟨b,ys,z,q2,r2⟩:=h2
     cases z
     exact (fP I q q2).elim
   | _=>unfold aL at h2; cases h2
 | .tup ds,e,v,h1,h2=>by
   unfold aL at h1;obtain ⟨a,xs,rfl,q,r⟩:=h1
   cases e with
   | tup es =>
     unfold aL at h2;obtain ⟨b,ys,z,q2,r2⟩:=h2
     cases z
     have e:=I.tuple_inj q q2;subst e;unfold dU;exact iJ I ds es xs r r2
   | lst es =>
     unfold aL at h2;obtain ⟨b,ys,z,q2,r2⟩:=h2
     cases z
     exact (fP I q2 q).elim
   | _=>unfold aL at h2; cases h2
theorem iJ (I:Inv X pins σ H s):∀ (ds es:List D)(xs:List V),bq X.K H ds xs->bq X.K H es xs->dk ds es=true
 | [],es,xs,h1,h2=>by
   unfold bq at h1;subst h1
   cases es with
   | nil=>rfl
   | cons e es=>unfold bq at h2; obtain ⟨_,_,z,_⟩:=h2; cases z
 | d :: ds,es,xs,h1,h2=>by
   unfold bq at h1;obtain ⟨y,ys,rfl,hd,h1⟩:=h1
   cases es with
   | nil=>unfold bq at h2; cases h2
   | cons e es =>
     unfold bq at h2;obtain ⟨_,_,z,he,h2⟩:=h2
     cases z
     unfold dk;rw [ky I d e y hd he,iJ I ds es ys h1 h2];rfl
end
theorem kH (I:Inv X pins σ H s)(n:Nat)(ih:n≠0->∀ (A:Around)(d e:D)(x y:V)(u v:Value),jd d<=n - 1->A.units + (n - 1) < cLine->aL X.K H d x->aL X.K H e y->aC x u->aC y v->SeqAt.EqAt A s u v (dU d e))
 (Y9:n≠0)(A:Around)(hu:A.units + n < cLine){ds es:List D}{xs ys:List V}{its Fe:List Value}(r1:bq X.K H ds xs)(r2:bq X.K H es ys)(rv:aK xs its)(Gp:aK ys Fe)(hn:eF ds<=n - 1):
 ∀ j (h1:j < its.toArray.size)(h2:j < Fe.toArray.size),SeqAt.EqAt A.in1 s its.toArray[j] Fe.toArray[j] (dU (ds.getD j .non) (es.getD j .non)):=by
 intro j h1 h2
 have e1:j < xs.length:=by rw [rv.length]; simpa using h1
 have e2:j < ys.length:=by rw [Gp.length]; simpa using h2
 obtain ⟨d1,m1⟩:=r1.get e1;obtain ⟨d2,m2⟩:=r2.get e2;obtain ⟨u,Za,ru⟩:=rv.get (List.getElem?_eq_getElem e1);obtain ⟨v,Zb,Zc⟩:=Gp.get (List.getElem?_eq_getElem e2)
 have z1:its.toArray[j]=u:=by
  have:=List.getElem?_eq_some_iff.mp Za;obtain ⟨_,q⟩:=this;simpa using q
 have z2:Fe.toArray[j]=v:=by
  have:=List.getElem?_eq_some_iff.mp Zb;obtain ⟨_,q⟩:=this;simpa using q
 rw [z1,z2];exact ih Y9 A.in1 _ _ _ _ _ _ (Nat.le_trans (tK m1) hn) (by show A.units + 1 + (n - 1) < cLine; omega) d1 d2 ru Zc
theorem lr (I:Inv X pins σ H s)(n:Nat)(ih:n≠0->∀ (A:Around)(d e:D)(x y:V)(u v:Value),jd d<=n - 1->A.units + (n - 1) < cLine->aL X.K H d x->aL X.K H e y->aC x u->aC y v->SeqAt.EqAt A s u v (dU d e))
 (A:Around)(d e:D)(x y:V)(u v:Value)(hn:jd d<=n)(hu:A.units + n < cLine)(h1:aL X.K H d x)(h2:aL X.K H e y)(rx:aC x u)(ry:aC y v):
 SeqAt.RcAt A s u v (dU d e)/\SeqAt.EqAt A s u v (dU d e)/\SeqAt.RcNeAt A s u v (!dU d e):=by
 have Fh:A.units < cLine:=by omega
 cases d with
 | non =>
   unfold aL at h1;subst h1
   cases rx
   cases e with
   | non =>
     unfold aL at h2;subst h2
     cases ry
     exact ⟨.none_none,.same _,.none_none⟩
   | bl q =>
     unfold aL at h2;subst h2
     cases ry
     exact ⟨.none_bool q,.none_bool q,.none_bool q⟩
   | int q =>
     unfold aL at h2;subst h2;obtain ⟨tq,rfl⟩:=ry;exact ⟨.none_int q tq,.none_int q tq,.none_int q tq⟩
   | str q =>
     unfold aL at h2;subst h2;obtain ⟨tq,rfl⟩:=ry;exact ⟨.none_str q tq,.none_str q tq,.none_str q tq⟩
   | lst es =>
     unfold aL at h2;obtain ⟨b,ys,rfl,q2,r2⟩:=h2
     cases ry
     obtain ⟨Fe,Gp,p2,_⟩:=I.list q2;exact ⟨.none_list  p2.isList Fh,.none_list  p2.isList Fh,.none_list  p2.isList Fh⟩
   | tup es =>
     unfold aL at h2;obtain ⟨b,ys,rfl,q2,r2⟩:=h2
     cases ry
     obtain ⟨Fe,Gp,p2,_⟩:=I.tuple q2;have p2:s.heap.IsTuple b Fe.toArray:=p2;exact ⟨.none_tuple  p2 Fh,.none_tuple  p2 Fh,.none_tuple  p2 Fh⟩
 | bl p =>
   unfold aL at h1;subst h1
   cases rx
   cases e with
   | non =>
     unfold aL at h2;subst h2
     cases ry
     exact ⟨.bool_none p,.bool_none p,.bool_none p⟩
   | bl q =>
     unfold aL at h2;subst h2
     cases ry
     unfold dU;exact ⟨.bool_bool p q,.bool_bool p q,.bool_bool p q⟩
   | int q =>
     unfold aL at h2;subst h2;obtain ⟨tq,rfl⟩:=ry;unfold dU;exact ⟨.bool_int p q tq,.bool_int p q tq,.bool_int p q tq⟩
   | str q =>
     unfold aL at h2;subst h2;obtain ⟨tq,rfl⟩:=ry;exact ⟨.bool_str p q tq,.bool_str p q tq,.bool_str p q tq⟩
   | lst es =>
     unfold aL at h2;obtain ⟨b,ys,rfl,q2,r2⟩:=h2
     cases ry
     obtain ⟨Fe,Gp,p2,_⟩:=I.list q2;exact ⟨.bool_list p p2.isList Fh,.bool_list p p2.isList Fh,.bool_list p p2.isList Fh⟩
   | tup es =>
     unfold aL at h2;obtain ⟨b,ys,rfl,q2,r2⟩:=h2
     cases ry
     obtain ⟨Fe,Gp,p2,_⟩:=I.tuple q2;have p2:s.heap.IsTuple b Fe.toArray:=p2;exact ⟨.bool_tuple p p2 Fh,.bool_tuple p p2 Fh,.bool_tuple p p2 Fh⟩
 | int p =>
   unfold aL at h1;subst h1;obtain ⟨tp,rfl⟩:=rx
   cases e with
   | non =>
     unfold aL at h2;subst h2
     cases ry
     exact ⟨.int_none p tp,.int_none p tp,.int_none p tp⟩
   | bl q =>
     unfold aL at h2;subst h2
     cases ry
     unfold dU;exact ⟨.int_bool p tp q,.int_bool p tp q,.int_bool p tp q⟩
   | int q =>
     unfold aL at h2;subst h2;obtain ⟨tq,rfl⟩:=ry;unfold dU;exact ⟨.int_int p tp q tq,.int_int p tp q tq,.int_int p tp q tq⟩
   | str q =>
     unfold aL at h2;subst h2;obtain ⟨tq,rfl⟩:=ry;exact ⟨.int_str p tp q tq,.int_str p tp q tq,.int_str p tp q tq⟩
   | lst es =>
     unfold aL at h2;obtain ⟨b,ys,rfl,q2,r2⟩:=h2
     cases ry
     obtain ⟨Fe,Gp,p2,_⟩:=I.list q2;exact ⟨.int_list p tp p2.isList Fh,.int_list p tp p2.isList Fh,.int_list p tp p2.isList Fh⟩
   | tup es =>
     unfold aL at h2;obtain ⟨b,ys,rfl,q2,r2⟩:=h2
     cases ry
     obtain ⟨Fe,Gp,p2,_⟩:=I.tuple q2;have p2:s.heap.IsTuple b Fe.toArray:=p2;exact ⟨.int_tuple p tp p2 Fh,.int_tuple p tp p2 Fh,.int_tuple p tp p2 Fh⟩
 | str p =>
   unfold aL at h1;subst h1;obtain ⟨tp,rfl⟩:=rx
   cases e with
   | non =>
     unfold aL at h2;subst h2
     cases ry
     exact ⟨.str_none p tp,.str_none p tp,.str_none p tp⟩
   | bl q =>
     unfold aL at h2;subst h2
     cases ry
     exact ⟨.str_bool p tp q,.str_bool p tp q,.str_bool p tp q⟩
   | int q =>
     unfold aL at h2;subst h2;obtain ⟨tq,rfl⟩:=ry;exact ⟨.str_int p tp q tq,.str_int p tp q tq,.str_int p tp q tq⟩
   | str q =>
     unfold aL at h2;subst h2;obtain ⟨tq,rfl⟩:=ry;unfold dU;exact ⟨.str_str p tp q tq,.str_str p tp q tq,.str_str p tp q tq⟩
   | lst es =>
     unfold aL at h2;obtain ⟨b,ys,rfl,q2,r2⟩:=h2
     cases ry
     obtain ⟨Fe,Gp,p2,_⟩:=I.list q2;exact ⟨.str_list p tp p2.isList Fh,.str_list p tp p2.isList Fh,.str_list p tp p2.isList Fh⟩
   | tup es =>
     unfold aL at h2;obtain ⟨b,ys,rfl,q2,r2⟩:=h2
     cases ry
     obtain ⟨Fe,Gp,p2,_⟩:=I.tuple q2;have p2:s.heap.IsTuple b Fe.toArray:=p2;exact ⟨.str_tuple p tp p2 Fh,.str_tuple p tp p2 Fh,.str_tuple p tp p2 Fh⟩
 | lst ds =>
   unfold aL at h1;obtain ⟨a,xs,rfl,q1,r1⟩:=id h1
   cases rx
   obtain ⟨its,rv,p1,_⟩:=I.list q1;have p1:s.heap.IsList a its.toArray:=p1.isList
   cases e with
   | non =>
     unfold aL at h2;subst h2
     cases ry
     exact ⟨.list_none  p1 Fh,.list_none  p1 Fh,.list_none  p1 Fh⟩
   | bl q =>
     unfold aL at h2;subst h2
     cases ry
     exact ⟨.list_bool q p1 Fh,.list_bool q p1 Fh,.list_bool q p1 Fh⟩
   | int q =>
     unfold aL at h2;subst h2;obtain ⟨tq,rfl⟩:=ry;exact ⟨.list_int q tq p1 Fh,.list_int q tq p1 Fh,.list_int q tq p1 Fh⟩
   | str q =>
     unfold aL at h2;subst h2;obtain ⟨tq,rfl⟩:=ry;exact ⟨.list_str q tq p1 Fh,.list_str q tq p1 Fh,.list_str q tq p1 Fh⟩
   | lst es =>
     unfold aL at h2;obtain ⟨b,ys,rfl,q2,r2⟩:=id h2
     cases ry
     obtain ⟨Fe,Gp,p2,_⟩:=I.list q2;have p2:s.heap.IsList b Fe.toArray:=p2.isList;have el:=kH I n ih (by unfold jd at hn; omega) A hu r1 r2 rv Gp (by unfold jd at hn; omega)
     have l1:its.toArray.size=ds.length:=by rw [List.size_toArray,<-rv.length,r1.len]
     have l2:Fe.toArray.size=es.length:=by rw [List.size_toArray,<-Gp.length,r2.len]
     have dr:=gD ds es
     have key:SeqAt.RcAt A s (.ref a) (.ref b) (dk ds es)/\SeqAt.RcNeAt A s (.ref a) (.ref b) (!dk ds es):=by
      by_cases hl:ds.length=es.length
      ·have hs:its.toArray.size=Fe.toArray.size:=by rw [l1,l2,hl]
       have z:(List.range its.toArray.size).all (λj=>dU (ds.getD j .non) (es.getD j .non))=dk ds es:=by rw [dr,l1,hl]; simp
       have c1:=SeqAt.RcAt.lists p1 p2 hs Fh el;have c2:=SeqAt.RcNeAt.lists p1 p2 hs Fh el;rw [z] at c1 c2;exact ⟨c1,c2⟩
      ·have z:dk ds es=false:=by rw [dr]; simp [hl]
       have hs:(its.toArray.size != Fe.toArray.size)=true:=by rw [l1,l2]; simpa using hl
       rw [z];exact ⟨SeqAt.RcAt.lists_lengths p1 p2 hs Fh,SeqAt.RcNeAt.lists_lengths p1 p2 hs Fh⟩
     have Lz:dU (.lst ds) (.lst es)=dk ds es:=by rw [dU]
     by_cases GX:a=b
     ·subst GX;have z:=ky I (.lst ds) (.lst es) (.ref a) (by unfold aL; exact ⟨a,xs,rfl,q1,r1⟩) (by unfold aL; exact ⟨a,ys,rfl,q2,r2⟩);refine ⟨by rw [Lz]; exact key.1,by rw [z]; exact .same _,by rw [Lz]; exact key.2⟩
     ·rw [Lz];exact ⟨key.1,.of_refs GX key.1,key.2⟩
   | tup es =>
     unfold aL at h2;obtain ⟨b,ys,rfl,q2,r2⟩:=id h2
     cases ry
     obtain ⟨Fe,Gp,p2,_⟩:=I.tuple q2;have p2:s.heap.IsTuple b Fe.toArray:=p2;exact ⟨.list_tuple p1 p2 Fh,.list_tuple p1 p2 Fh,.list_tuple p1 p2 Fh⟩
 | tup ds =>
   unfold aL at h1;obtain ⟨a,xs,rfl,q1,r1⟩:=id h1
   cases rx
   obtain ⟨its,rv,p1,_⟩:=I.tuple q1;have p1:s.heap.IsTuple a its.toArray:=p1
   cases e with
   | non =>
     unfold aL at h2;subst h2
     cases ry
     exact ⟨.tuple_none  p1 Fh,.tuple_none  p1 Fh,.tuple_none  p1 Fh⟩
   | bl q =>
     unfold aL at h2;subst h2
     cases ry
     exact ⟨.tuple_bool q p1 Fh,.tuple_bool q p1 Fh,.tuple_bool q p1 Fh⟩
   | int q =>
     unfold aL at h2;subst h2;obtain ⟨tq,rfl⟩:=ry;exact ⟨.tuple_int q tq p1 Fh,.tuple_int q tq p1 Fh,.tuple_int q tq p1 Fh⟩
   | str q =>
     unfold aL at h2;subst h2;obtain ⟨tq,rfl⟩:=ry;exact ⟨.tuple_str q tq p1 Fh,.tuple_str q tq p1 Fh,.tuple_str q tq p1 Fh⟩
   | lst es =>
     unfold aL at h2;obtain ⟨b,ys,rfl,q2,r2⟩:=id h2
     cases ry
     obtain ⟨Fe,Gp,p2,_⟩:=I.list q2;have p2:s.heap.IsList b Fe.toArray:=p2.isList;exact ⟨.tuple_list p1 p2 Fh,.tuple_list p1 p2 Fh,.tuple_list p1 p2 Fh⟩
   | tup es =>
     unfold aL at h2;obtain ⟨b,ys,rfl,q2,r2⟩:=id h2
     cases ry
     obtain ⟨Fe,Gp,p2,_⟩:=I.tuple q2;have p2:s.heap.IsTuple b Fe.toArray:=p2;have el:=kH I n ih (by unfold jd at hn; omega) A hu r1 r2 rv Gp (by unfold jd at hn; omega)
     have l1:its.toArray.size=ds.length:=by rw [List.size_toArray,<-rv.length,r1.len]
     have l2:Fe.toArray.size=es.length:=by rw [List.size_toArray,<-Gp.length,r2.len]
     have dr:=gD ds es
     have key:SeqAt.RcAt A s (.ref a) (.ref b) (dk ds es)/\SeqAt.RcNeAt A s (.ref a) (.ref b) (!dk ds es):=by
      have z:((List.range (min its.toArray.size Fe.toArray.size)).all (λj=>dU (ds.getD j .non) (es.getD j .non))&&its.toArray.size == Fe.toArray.size)=dk ds es:=by rw [dr,l1,l2]
      have c1:=SeqAt.RcAt.tuples p1 p2 Fh el;have c2:=SeqAt.RcNeAt.tuples p1 p2 Fh el;rw [z] at c1 c2;exact ⟨c1,c2⟩
     have Lz:dU (.tup ds) (.tup es)=dk ds es:=by rw [dU]
     by_cases GX:a=b
     ·subst GX;have z:=ky I (.tup ds) (.tup es) (.ref a) (by unfold aL; exact ⟨a,xs,rfl,q1,r1⟩) (by unfold aL; exact ⟨a,ys,rfl,q2,r2⟩);refine ⟨by rw [Lz]; exact key.1,by rw [z]; exact .same _,by rw [Lz]; exact key.2⟩
     ·rw [Lz];exact ⟨key.1,.of_refs GX key.1,key.2⟩
theorem iB (I:Inv X pins σ H s):∀ (n:Nat)(A:Around)(d e:D)(x y:V)(u v:Value),jd d<=n->A.units + n < cLine->aL X.K H d x->aL X.K H e y->aC x u->aC y v →
 SeqAt.RcAt A s u v (dU d e)/\SeqAt.EqAt A s u v (dU d e)/\SeqAt.RcNeAt A s u v (!dU d e):=by
 intro n
 induction n with
 | zero=>exact λA d e x y u v hn hu h1 h2 rx ry=>lr I 0 (λz=>absurd z (by simp)) A d e x y u v hn hu h1 h2 rx ry
 | succ n ih=>exact λA d e x y u v hn hu h1 h2 rx ry=>lr I (n + 1) (λ_ A d e x y u v hn hu h1 h2 rx ry=>(ih A d e x y u v hn hu h1 h2 rx ry).2.1) A d e x y u v hn hu h1 h2 rx ry
end
section
variable {X:Cx}
noncomputable def Ca (K:Frag)(neg:Bool):R2:=λx y H Q=>∃ d e,aL K H d x/\aL K H e y/\jd d<=32/\Q (.bl (dU d e != neg)) H
theorem qk {k:Nat}(hr:Room k X.A):f9 X (compareOp .Eq) (Ca X.K false):=by
 intro pins s σ H x y v u Q I rx ry h;obtain ⟨d,e,h1,h2,hd,q⟩:=h;have z:=(iB I 32 X.A d e x y v u hd (by have:=hr.units; omega) h1 h2 rx ry).1;exact z X.prog X.w X.xe _ ⟨.bl (dU d e),H,I,rfl,by simpa using q⟩
theorem wQ {k:Nat}(hr:Room k X.A):f9 X (compareOp .NotEq) (Ca X.K true):=by
 intro pins s σ H x y v u Q I rx ry h;obtain ⟨d,e,h1,h2,hd,q⟩:=h;have z:=(iB I 32 X.A d e x y v u hd (by have:=hr.units; omega) h1 h2 rx ry).2.2
 exact z X.prog X.w X.xe _ ⟨.bl (!dU d e),H,I,rfl,by
  have e1:(dU d e != true) = !dU d e:=by cases dU d e <;> rfl
  rw [e1] at q
  exact q⟩
end
end L2
namespace Nm
noncomputable def cS (a b:Int):Int:=(Int.gcd a b:Int)
noncomputable def dv (t b:Int):Int:=if b < 0 then -(cS t b) else cS t b
noncomputable def cM (t b:Int):Int:=t.fdiv (dv t b)
noncomputable def b7 (t b:Int):Int:=b.fdiv (dv t b)
theorem eM {t b:Int}(h:b≠0):0 < cS t b:=by
 unfold cS;have:0 < Int.gcd t b:=Int.gcd_pos_of_ne_zero_right _ h;omega
theorem lU {t b:Int}(h:b≠0):dv t b≠0:=by
 have:=eM (t:=t) h;unfold dv
 split <;> omega
theorem DU {t b:Int}:dv t b ∣ t:=by
 unfold dv cS
 split
 ·exact Int.neg_dvd.mpr (Int.gcd_dvd_left ..)
 ·exact Int.gcd_dvd_left ..
theorem DT {t b:Int}:dv t b ∣ b:=by
 unfold dv cS
 split
 ·exact Int.neg_dvd.mpr (Int.gcd_dvd_right ..)
 ·exact Int.gcd_dvd_right ..
theorem oN {a b:Int}(h:b ∣ a)(hb:b≠0):a.fdiv b * b=a:=by
 obtain ⟨c,rfl⟩:=h;rw [Int.mul_fdiv_cancel_left _ hb,Int.mul_comm]
theorem ma {t b:Int}(h:b≠0):cM t b * dv t b=t:=oN DU (lU h)
theorem iV {t b:Int}(h:b≠0):b7 t b * dv t b=b:=oN DT (lU h)
theorem mY {t b:Int}(h:b≠0):0 < b7 t b:=by
 have e:=iV (t:=t) h;have g:=eM (t:=t) h
 by_cases hb:b < 0
 ·have hd:dv t b = -(cS t b):=by unfold dv; rw [if_pos hb]
  rw [hd] at e
  by_cases hl:0 < b7 t b
  ·exact hl
  ·have:0<=b7 t b * -(cS t b):=by
    have:=Int.mul_nonneg_of_nonpos_of_nonpos (a:=b7 t b) (b:=-(cS t b)) (by omega) (by omega);exact this
   omega
 ·have hd:dv t b=cS t b:=by unfold dv; rw [if_neg hb]
  rw [hd] at e
  by_cases hl:0 < b7 t b
  ·exact hl
  ·have:b7 t b * cS t b<=0:=Int.mul_nonpos_of_nonpos_of_nonneg (by omega) (by omega);omega
theorem l9 {t b:Int}:(dv t b).natAbs=Int.gcd t b:=by
 unfold dv cS
 split <;> simp
theorem nQ {t b:Int}(h:b≠0):Int.gcd (cM t b) (b7 t b)=1:=by
 have e1:=ma (t:=t) h;have e2:=iV (t:=t) h;have g:0 < Int.gcd t b:=Int.gcd_pos_of_ne_zero_right _ h;have e3:Int.gcd (cM t b * dv t b) (b7 t b * dv t b)=Int.gcd (cM t b) (b7 t b) * (dv t b).natAbs:=Int.gcd_mul_right ..;rw [e1,e2,l9] at e3
 have:Int.gcd (cM t b) (b7 t b) * Int.gcd t b=1 * Int.gcd t b:=by omega
 exact Nat.eq_of_mul_eq_mul_right g this
theorem j6 {t b t' b':Int}(h:b≠0)(hp:0 < b')(hg:Int.gcd t' b'=1)(he:t * b'=t' * b):cM t b=t'/\b7 t b=b':=by
 have e1:=ma (t:=t) h;have e2:=iV (t:=t) h;have g:=lU (t:=t) h;have lp:=mY (t:=t) h;have lg:=nQ (t:=t) h
 have e3:cM t b * b'=t' * b7 t b:=by
  have z:(cM t b * b') * dv t b=(t' * b7 t b) * dv t b:=by
   rw [Int.mul_right_comm,e1,he,Int.mul_assoc,e2]
  exact Int.eq_of_mul_eq_mul_right g z
 have n3:(cM t b).natAbs * b'.natAbs=t'.natAbs * (b7 t b).natAbs:=by
  have:=congrArg Int.natAbs e3;rw [Int.natAbs_mul,Int.natAbs_mul] at this;exact this
 have c1:Nat.Coprime (b7 t b).natAbs (cM t b).natAbs:=by
  rw [Nat.coprime_comm];exact lg
 have c2:Nat.Coprime b'.natAbs t'.natAbs:=by
  rw [Nat.coprime_comm];exact hg
 have d1:(b7 t b).natAbs ∣ b'.natAbs:=c1.dvd_of_dvd_mul_left ⟨t'.natAbs,by rw [n3,Nat.mul_comm]⟩;have d2:b'.natAbs ∣ (b7 t b).natAbs:=c2.dvd_of_dvd_mul_left ⟨(cM t b).natAbs,by rw [<-n3,Nat.mul_comm]⟩;have e4:(b7 t b).natAbs=b'.natAbs:=Nat.dvd_antisymm d1 d2
 have e5:b7 t b=b':=by omega
 refine ⟨?_,e5⟩;rw [e5] at e3;exact Int.eq_of_mul_eq_mul_right (by omega) e3
theorem jA {t b:Int}(hp:0 < b)(hg:Int.gcd t b=1):cM t b=t/\b7 t b=b:=j6 (by omega) hp hg rfl
theorem pX (a b:Int):Int.gcd b (a.fmod b)=Int.gcd a b:=by
 rw [Int.fmod_def,Int.gcd_comm a b]
 first
  | exact Int.gcd_sub_mul_left_right ..
  | simp
theorem sV (a b:Int)(h:b≠0):(a.fmod b).natAbs < b.natAbs:=by
 by_cases hb:0 < b
 ·have h1:=Int.fmod_lt_of_pos a hb;have h2:=Int.fmod_nonneg_of_pos a hb;omega
 ·have e:a.fmod b = -((-a).fmod (-b)):=by
   have:=Int.fmod_def a b;rw [Int.neg_fmod_neg];omega
  have h1:=Int.fmod_lt_of_pos (-a) (b:=-b) (by omega);have h2:=Int.fmod_nonneg_of_pos (-a) (b:=-b) (by omega);omega
noncomputable def sg (b:Int):Int:=if b < 0 then -1 else 1
noncomputable def ab (b:Int):Int:=if b < 0 then -b else b
theorem jt (b:Int):ab b=(b.natAbs:Int):=by unfold ab; split <;> omega
theorem CI {t b:Int}(h:b≠0):(sg b * t).fdiv (cS t b)=cM t b:=by
 have g:=eM (t:=t) h;have e:=ma (t:=t) h
 have z:sg b * t=cM t b * cS t b:=by
  unfold sg dv at *
  split
  ·rename_i hb
   rw [if_pos hb] at e
   have:cM t b * -cS t b = -(cM t b * cS t b):=by rw [Int.mul_neg]
   omega
  ·rename_i hb
   rw [if_neg hb] at e;omega
 rw [z,Int.mul_fdiv_cancel _ (by omega)]
theorem Dh {t b:Int}(h:b≠0):(ab b).fdiv (cS t b)=b7 t b:=by
 have g:=eM (t:=t) h;have e:=iV (t:=t) h
 have z:ab b=b7 t b * cS t b:=by
  unfold ab dv at *
  split
  ·rename_i hb
   rw [if_pos hb] at e
   have:b7 t b * -cS t b = -(b7 t b * cS t b):=by rw [Int.mul_neg]
   omega
  ·rename_i hb
   rw [if_neg hb] at e;omega
 rw [z,Int.mul_fdiv_cancel _ (by omega)]
theorem Bc (a b:Int):Int.gcd (ab a) (ab b)=Int.gcd a b:=by
 rw [jt,jt];simp [Int.gcd]
noncomputable def B (n:Nat)(i:Int):Prop:=i.natAbs < 2 ^ n
theorem B.mono {n m:Nat}{i:Int}(h:B n i)(hn:n<=m):B m i:=Nat.lt_of_lt_of_le h (Nat.pow_le_pow_right (by decide) hn)
theorem B.mul {n m:Nat}{i j:Int}(h:B n i)(k:B m j):B (n + m) (i * j):=by
 unfold B at *;rw [Int.natAbs_mul,Nat.pow_add];exact Nat.mul_lt_mul'' h k
theorem B.add {n:Nat}{i j:Int}(h:B n i)(k:B n j):B (n + 1) (i + j):=by
 unfold B at *;rw [Nat.pow_succ];have:=Int.natAbs_add_le i j;omega
theorem B.le {n:Nat}{i j:Int}(h:B n i)(k:j.natAbs<=i.natAbs):B n j:=Nat.lt_of_le_of_lt k h
theorem rE {x d y:Int}(e:x * d=y)(hd:d≠0):x.natAbs<=y.natAbs:=by
 have:x.natAbs * d.natAbs=y.natAbs:=by rw [<-Int.natAbs_mul,e]
 have h1:1<=d.natAbs:=by omega
 calc x.natAbs=x.natAbs * 1:=(Nat.mul_one _).symm
  _<=x.natAbs * d.natAbs:=Nat.mul_le_mul_left _ h1
  _=y.natAbs:=this
theorem sJ {t b:Int}(h:b≠0):(cM t b).natAbs<=t.natAbs:=rE (ma h) (lU h)
theorem tR {t b:Int}(h:b≠0):(b7 t b).natAbs<=b.natAbs:=rE (iV h) (lU h)
theorem AM {t b:Int}(h:b≠0):(dv t b).natAbs<=b.natAbs:=by
 have e:=iV (t:=t) h;have lp:=mY (t:=t) h;exact rE (x:=dv t b) (d:=b7 t b) (by rw [Int.mul_comm]; exact e) (by omega)
theorem Bq {t b:Int}(h:b≠0):(cS t b).natAbs<=b.natAbs:=by
 have e:=AM (t:=t) h;rw [l9] at e;unfold cS;simpa using e
structure Num (p t b:Int):Prop where
 pos:0 < b
 red:Int.gcd t b=1
 pr:p≠0->b=1/\0<=t/\t < p
theorem Num.ofP {p t:Int}(h0:0<=t)(h1:t < p):Num p t 1:=⟨by decide,by simp,λ_=>⟨rfl,h0,h1⟩⟩
theorem Num.low {t b:Int}(h:b≠0):Num 0 (cM t b) (b7 t b):=⟨mY h,nQ h,λz=>absurd rfl z⟩
noncomputable def c6 (p t b:Int):Int:=if p=0 then cM t b else t % p
noncomputable def dq (p t b:Int):Int:=if p=0 then b7 t b else 1
theorem Num.set {p t b:Int}(hp:0<=p)(h:b≠0):Num p (c6 p t b) (dq p t b):=by
 unfold c6 dq
 by_cases z:p=0
 ·subst z;simp only [if_true];exact Num.low h
 ·simp only [z,if_false];exact Num.ofP (Int.emod_nonneg _ z) (Int.emod_lt_of_pos _ (by omega))
theorem Num.self {p t b:Int}(n:Num p t b)(hp:0<=p):c6 p t b=t/\dq p t b=b:=by
 unfold c6 dq
 by_cases z:p=0
 ·simp only [z,if_true];exact jA n.pos n.red
 ·simp only [z,if_false];obtain ⟨h1,h2,h3⟩:=n.pr z;exact ⟨Int.emod_eq_of_lt h2 h3,h1.symm⟩
theorem Bb {p t b t' b':Int}(h:b≠0)(n:Num p t' b')(hp:0<=p)(e0:p=0->t * b'=t' * b)(e1:p≠0->t % p=t' % p):c6 p t b=t'/\dq p t b=b':=by
 unfold c6 dq
 by_cases z:p=0
 ·simp only [z,if_true];exact j6 h n.pos n.red (e0 z)
 ·simp only [z,if_false];obtain ⟨h1,h2,h3⟩:=n.pr z;exact ⟨by rw [e1 z]; exact Int.emod_eq_of_lt h2 h3,h1.symm⟩
end Nm
namespace L2
open PySem PySem.Spec PyProof.Rows PySem.W
theorem AC {i:Int}(h:Nm.B 9000 i):i.natAbs.log2 < 9000:=by
 by_cases z:i.natAbs=0
 ·rw [z]; decide
 ·exact (Nat.log2_lt z).mpr h
theorem xE {i:Int}(h:Nm.B 9000 i):Builtin.Int.intBits i<=2 ^ 20:=by
 have l:=AC h;unfold Builtin.Int.intBits
 split
 ·exact Nat.zero_le _
 ·have:(9000:Nat)<=2 ^ 20:=by decide
  omega
section
variable {X:Cx}
theorem fG:f9 X (binaryOp .FloorDiv) (rI (λ_ j=>j≠0/\Nm.B 9000 j) λi j=>.int (i.fdiv j)):=A5 λ_ _ _ _ _ _ _ hc q=>floordiv_int hc.1 q (.inl (PyProof.noPylong_of_log2 (AC hc.2)))
theorem de:f9 X (binaryOp .Mult) (rI (λi j=>Nm.B 9000 i/\Nm.B 9000 j) λi j=>.int (i * j)):=A5 λ_ _ _ _ _ _ _ hc q=>mul_int q (IntMulOk.of_bits (xE hc.1) (xE hc.2))
end
noncomputable def pQ:List Expr->Option (List Int)
 | []=>some []
 | .Constant (.int i) _ _ :: es=>(pQ es).map (i :: ·)
 | _=>none
noncomputable def Cy (ns:List Int):TA:=λ_ H Q=>Q (ns.map V.int) H
theorem sG {X:Cx}:∀ {es:List Expr}{ns:List Int},pQ es=some ns->PA X es (Cy ns)
 | [],ns,h=>by
   cases h
   exact af
 | .Constant (.int i) k p :: es,ns,h=>by
   unfold pQ at h
   cases e:pQ es with
   | none=>rw [e] at h; cases h
   | some ms =>
     rw [e] at h
     cases h
     exact ai (aj (j:=k) (pos:=p)) (sG e)
noncomputable def CC (ns:List Int):TE:=λ_ H Q=>∀ p,H p=none->Q (.ref p) (upd H p (.lst (ns.map V.int)))
theorem mX {X:Cx}{es:List Expr}{pos:Pos}{ns:List Int}(h:pQ es=some ns)(hl:ns.length<=1000):PE X (.List es pos) (CC ns):=by
 intro pins s σ H Q I q;refine cW (sG h) pins s σ H Q I ?_;refine ⟨?_,q⟩;rw [List.length_map];exact Nat.le_of_lt (uF hl)
end L2
namespace K06
open PySem L2 PySem.W Nm
noncomputable abbrev Dc:Stmt:=(aZ 31)
noncomputable abbrev rW:Stmt:=(aZ 32)
noncomputable def bD (t b:Int):HO:=.tup [.int t,.int b]
noncomputable def spGcd:Sp:=λvs H Q _=>∃ a b:Int,vs=[.int a,.int b]/\Q (.int (cS a b)) H
noncomputable def spLowest:Sp:=λvs H Q _=>∃ t b:Int,vs=[.int t,.int b]/\b≠0/\B 9000 b/\∀ p,H p=none->Q (.ref p) (upd H p (bD (cM t b) (b7 t b)))
theorem iD {p:Int}(h:p∈primes):2<=p/\p<=97:=by
 have:∀ q∈primes,2<=q/\q<=97:=by decide
 exact this p h
variable {P:Program}{w:World}{K:PySem.W.Frag}{mg:Str->Option Value}{base:Heap}
theorem Ai:FnScope ["one","other"] ["one","other"] (aq Dc):=dX (by decide +kernel)
theorem BE {f:Addr}{fd:FuncData}(F:Fun K "common_divisor" "common_divisor" Dc f fd)(mA:mg "abs"=none):FnOk P w K mg base (aV P w) 1 f fd ["one","other"] spGcd:=by
 refine F.okN Ai (λvs H Q E h=>?_) (λFb A outer s H vs Q E hr h=>?_)
 ·obtain ⟨a,b,rfl,_⟩:=h;rfl
 ·obtain ⟨a,b,rfl,q⟩:=h
  refine ⟨_,ak (oF PassesOwn.never (ku (pv 1) (λ_=>rfl)) (ar (rD (i:=0) (j:=1) rfl Ai.nd rfl rfl (by decide) rfl rfl (ai (pv 1) (ai (aJ sk (pv 0) (pv 1)) af)) rfl)))
   (ar (az (aF gZ (by rfl) mA (by rfl) (ai (pv 0) af)))),?_⟩
  refine ⟨λm σ H'=>∃ c d:Int,σ=[some (.int c),some (.int d)]/\H'=H/\m=d.natAbs/\Int.gcd c d=Int.gcd a b,⟨_,a,b,rfl,rfl,rfl,rfl⟩,?_⟩;rintro m σ H' ⟨c,d,rfl,rfl,rfl,hg⟩;refine ⟨_,rfl,_,rfl,?_⟩;refine cz (λh=>?_) (λh=>?_)
  ·have hd:d≠0:=by simpa using h
   refine ⟨λσ' HN=>∃ c' d':Int,σ'=[some (.int c'),some (.int d')]/\HN=H'/\d'.natAbs < d.natAbs/\Int.gcd c' d'=Int.gcd a b,λσ' HN ⟨c',d',e1,e2,e3,e4⟩=>⟨_,e3,c',d',e1,e2,rfl,e4⟩,?_⟩;refine ⟨_,rfl,_,rfl,_,rfl,_,_,rfl,rfl,hd,_,_,rfl,d,c.fmod d,rfl,rfl,sV c d hd,?_⟩;rw [pX,hg]
  ·have hd:d=0:=by simpa using h
   subst hd;refine ⟨_,rfl,c,rfl,?_⟩
   have e:(if c < 0 then -c else c)=cS a b:=by
    unfold cS;rw [<-hg];have:=jt c;unfold ab at this;rw [this];simp
   rw [e];exact q
theorem j7:FnScope ["top","bottom","divisor"] ["top","bottom"] (aq rW):=dX (by decide +kernel)
theorem uk {f fg:Addr}{fd Gq:FuncData}(F:Fun K "lowest" "lowest" rW f fd)(FG:FnOk P w K mg base (aV P w) 1 fg Gq ["one","other"] spGcd)(bG:L2.aA K Gq ["one","other"] [])(mG:mg "common_divisor"=some (.ref fg))(kG:keepIn K (.ref fg)=true):
 FnOk P w K mg base (aV P w) 2 f fd ["top","bottom"] spLowest:=by
 refine F.okN j7 (λvs H Q E h=>?_) (λFb A outer s H vs Q E hr h=>?_)
 ·obtain ⟨a,b,rfl,_⟩:=h;rfl
 ·obtain ⟨t,b,rfl,hb,hB,q⟩:=h
  refine ⟨_,ak (bg (aQ d8 (pv 1) aj (aI _)) (ar (az (bV (ai (pv 0) (ai aj af))))) aD)
   (ak (aY (i:=2) j7.nd rfl (Or.inl rfl) (ax FG hr (by rfl) mG kG bG .nil ae (ai (pv 0) (ai (pv 1) af))))
   (ak (bg (aQ jJ (pv 1) aj (aI _)) (ar (aY (i:=2) j7.nd rfl (Or.inl rfl) (Am xf (pv 2)))) aD)
   (ar (az (bV (ai (aJ fG (pv 0) (pv 2)) (ai (aJ fG (pv 1) (pv 2)) af))))))),?_⟩
  refine ⟨_,rfl,rfl,_,rfl,?_⟩;refine cz (λh=>?_) (λh=>?_)
  ·have e:b=1:=by simpa using h
   subst e;have z:=jA (t:=t) (b:=1) (by decide) (by simp);refine ⟨_,rfl,kZ,λp hp=>?_⟩;have y:=q p hp;rw [z.1,z.2] at y;exact y
  ·refine ⟨_,rfl,_,rfl,t,b,rfl,?_⟩;refine ⟨_,rfl,_,_,rfl,rfl,_,rfl,?_⟩;have gp:=eM (t:=t) hb
   have fin:∀ d:Int,d=dv t b->Dr (dZ (oh (rI (λ_ j=>j≠0/\Nm.B 9000 j) λi j=>V.int (i.fdiv j)) (gH 0) (gH 2)) (dZ (oh (rI (λ_ j=>j≠0/\Nm.B 9000 j) λi j=>V.int (i.fdiv j)) (gH 1) (gH 2)) tNil)) [some (.int t),some (.int b),some (.int d)] H Q:=by
    intro d hd
    have Rv:d≠0:=by rw [hd]; exact lU hb
    have WI:B 9000 d:=by rw [hd]; exact hB.le (AM hb)
    refine ⟨_,rfl,_,rfl,_,_,rfl,rfl,⟨Rv,WI⟩,_,rfl,_,rfl,_,_,rfl,rfl,⟨Rv,WI⟩,kZ,λp hp=>?_⟩;have y:=q p hp;unfold cM b7 at y;rw [<-hd] at y;exact y
   refine cz (λh2=>?_) (λh2=>?_)
   ·have e:b < 0:=by simpa using h2
    exact ⟨_,rfl,_,rfl,fin _ (by unfold dv; rw [if_pos e])⟩
   ·have e:¬ b < 0:=by simpa using h2
    exact fin _ (by unfold dv; rw [if_neg e])
noncomputable abbrev v9:Stmt:=(aZ 9)
noncomputable abbrev wX:Stmt:=aU (aZ 34) 0
inductive Th (H:Hp):V->String->Prop where
 | non:Th H .non "NoneType"
 | bl (b:Bool):Th H (.bl b) "bool"
 | int (i:Int):Th H (.int i) "int"
 | str (x:Str):Th H (.str x) "str"
 | lst {a:Addr}{xs:List V}(e:H a=some (.lst xs)):Th H (.ref a) "list"
 | tup {a:Addr}{xs:List V}(e:H a=some (.tup xs)):Th H (.ref a) "tuple"
 | dK {a:Addr}{E9:List (Key × V)}(e:H a=some (.dK E9)):Th H (.ref a) "dict"
theorem Th.ty {K:Frag}{H:Hp}{x:V}{T:String}(h:Th H x T):TyX K H x (.type T):=by
 cases h with
 | non=>exact .of .non
 | bl b=>exact .of (.bl b)
 | int i=>exact .of (.int i)
 | str x=>exact .of (.str x)
 | lst e=>exact .of (.lst e)
 | tup e=>exact .of (.tup e)
 | dK e=>exact .of (.dK e)
noncomputable def dt:V->Bool
 | .int _=>true
 | _=>false
noncomputable def Da:V->Bool
 | .int _=>true
 | .bl _=>true
 | _=>false
theorem Th.isInt {K:Frag}{H:Hp}{x:V}{T:String}(h:Th H x T):kitOne K (.type T) (.type "int")=some (Da x):=by cases h <;> rfl
theorem Th.isBool {K:Frag}{H:Hp}{x:V}{T:String}(h:Th H x T)(hi:Da x=true):kitOne K (.type T) (.type "bool")=some (!dt x):=by
 cases h with
 | int i=>rfl
 | bl b=>rfl
 | _=>cases hi
noncomputable def spWhole:Sp:=λvs H Q _=>∃ x T,vs=[x]/\Th H x T/\Q (.bl (dt x)) H
structure Nones (mg:Str->Option Value):Prop where
 isi:mg "isinstance"=none
 int:mg "int"=none
 bool:mg "bool"=none
theorem zy:FnScope ["thing"] ["thing"] (aq v9):=dX (by decide +kernel)
theorem yr {f:Addr}{fd:FuncData}(F:Fun K "is_whole" "is_whole" v9 f fd)(n:Nones mg):FnOk P w K mg base (aV P w) 1 f fd ["thing"] spWhole:=by
 refine F.okN zy (λvs H Q E h=>?_) (λFb A outer s H vs Q E hr h=>?_)
 ·obtain ⟨x,T,rfl,_⟩:=h;rfl
 ·obtain ⟨x,T,rfl,th,q⟩:=h
  refine ⟨_,ar (az (cE (aF aR (by rfl) n.isi (by rfl) (aO (pv 0) (aO (dh (by rfl) n.int (by rfl) (show aC (.ty "int") (.type "int") from rfl)) af)))
   (dC (xC (aF aR (by rfl) n.isi (by rfl) (aO (pv 0) (aO (dh (by rfl) n.bool (by rfl) (show aC (.ty "bool") (.type "bool") from rfl)) af))))))),?_⟩
  refine ⟨_,rfl,x,.ty "int",_,_,_,rfl,rfl,th.ty,th.isInt,_,rfl,?_⟩;refine cz (λhi=>?_) (λhi=>?_)
  ·refine ⟨_,rfl,x,.ty "bool",_,_,_,rfl,rfl,th.ty,th.isBool hi,_,rfl,?_⟩;simpa using q
  ·have e:dt x=false:=by
    cases th <;> first | rfl | exact absurd rfl hi
   rw [e] at q;exact q
noncomputable def iT (i:Int):Bool:=i == 0 || primes.any λp=>p == i
noncomputable def good:V->Bool
 | .int i=>iT i
 | _=>false
noncomputable def eI (i:Int):List (Str × V):=[("its_prime",.int i)]
noncomputable def qu (C NF:Addr):Sp:=λvs H Q E=>∃ (p dx:Addr)(x:V)(T:String),vs=[.ref p,x]/\Th H x T/\H p=some (.ins C dx [])/\(good x=true->Q .non (upd H p (.ins C dx [("its_prime",x)])))/\(good x=false->E (.ref NF) none H)
structure FieldK (K:Frag)(mg:Str->Option Value)(C:Addr):Prop where
 cl:Cls K C
 nP:dI K C "its_prime"
 mgC:mg "Field"=some (.ref C)
 isC:((clsIn K C).isSome&&typeIn K (.ref C) == some (.type "type"))=true
 ca:findIn K (.ref C) "__class__"=some (some (.builtin "object.__class__"))
 sp:specialIn K (.builtin "object.__class__") "__get__"=some (some (.builtin "getset_descriptor.__get__"))
 tk:takesIn K (.builtin "object.__class__")=some true
 ob:mroIn K C (.type "object")=some true
theorem FieldK.ty {K:Frag}{mg:Str->Option Value}{C:Addr}(c:FieldK K mg C){H:Hp}{p dx:Addr}{fs:List (Str × V)}(e:H p=some (.ins C dx fs)):TyX K H (.ref p) (.ref C):=.of (.ins e c.cl c.ca c.sp c.tk c.ob)
theorem FieldK.is {K:Frag}{mg:Str->Option Value}{C:Addr}(c:FieldK K mg C):kitOne K (.ref C) (.ref C)=some true:=by
 unfold kitOne;rw [if_pos (by simp)]
theorem FieldK.no {K:Frag}{mg:Str->Option Value}{C:Addr}(c:FieldK K mg C){H:Hp}{x:V}{T:String}(h:Th H x T):kitOne K (.type T) (.ref C)=some false:=by
 show (if (Value.type T == Value.ref C)=true then some true else (if ((clsIn K C).isSome&&typeIn K (.ref C) == some (.type "type"))=true then subIn K (.type T) (.ref C) else none))=some false;rw [if_neg (by intro z; cases beq_iff_eq.mp z),if_pos c.isC]
 cases h <;> rfl
theorem jY (i:Int):Cs (.int i) (primes.map V.int)=primes.any λp=>p == i:=by
 unfold Cs;rw [List.any_map];rfl
theorem B0:FnScope ["self","prime"] ["self","prime"] (aq wX):=dX (by decide +kernel)
theorem yK {f fw C NF aP T:Addr}{fd HZ:FuncData}{tF:Tok}(F:FunD K "__init__" "Field.__init__" wX f fd T)(c:FieldK K mg C)(FW:FnOk P w K mg base (aV P w) 1 fw HZ ["thing"] spWhole)(bW:aA K HZ ["thing"] [])(mW:mg "is_whole"=some (.ref fw))(kW:keepIn K (.ref fw)=true)
 (mF:mg "FRACTIONS"=some (.int 0 tF))(mP:mg "PRIMES"=some (.ref aP))(hP:∀ H:Hp,a9 K H aP (primes.map V.int))(mN:mg "NoField"=some (.ref NF))(qN:excIn K NF Bg p3=true):FnOk P w K mg base (aV P w) 2 f fd ["self","prime"] (qu C NF):=by
 refine F.okE B0 (λvs H Q E h=>?_) (λFb A outer s H vs Q E hr h=>?_)
 ·obtain ⟨p,dx,x,T,rfl,_⟩:=h;rfl
 ·obtain ⟨p,dx,x,T,rfl,th,hp,hq,hE⟩:=h
  refine ⟨_,ak (bg (PW.pt (gh (bU (b9 (ax FW hr (by rfl) mW kW bW .nil ae (aO (pv 1) af))))
   (fL (PW.pt (Bm (aQ gm (pv 1) (cL (by rfl) mF (show aC (.int 0) (.int 0 tF) from ⟨_,rfl⟩)) (aI _)) (zE (aQ mZ (pv 1) (cL (by rfl) mP (show aC (.ref aP) (.ref aP) from rfl)) (by rfl))))))))
   (ar (gP PySem.F.excBase_ValueError qN rfl eV (by rfl) mN (aO cY af))) aD)
   (ar (mr (pv 0) (pv 1) rfl)),?_⟩
  have fin:good x=true->∃ (a C' Nt:Addr)(fs:List (Str × V)),V.ref p = .ref a/\H a=some (.ins C' Nt fs)/\Cls K C'/\dI K C' "its_prime"/\fs.length < 1000/\Q .non (upd H a (.ins C' Nt (dw "its_prime" x fs))):=λg=>⟨p,C,dx,[],rfl,hp,c.cl,c.nP,by decide,hq g⟩;refine ⟨_,rfl,x,T,rfl,th,_,rfl,?_⟩
  cases th with
  | int i =>
    refine bF ?_;refine ⟨_,rfl,rfl,_,rfl,?_⟩;refine cz (λh0=>?_) (λh0=>?_)
    ·refine ⟨_,rfl,aP,_,rfl,.inr (hP _),rfl,rfl,_,rfl,?_⟩;refine cz (λh1=>?_) (λh1=>?_)
     ·refine ⟨by decide,hE ?_⟩
      have e1:¬ i=0:=by simpa using h0
      have e2:Cs (.int i) (primes.map V.int)=false:=by simpa using h1
      rw [jY] at e2;show iT i=false;unfold iT;rw [e2];simpa using e1
     ·have e2:Cs (.int i) (primes.map V.int)=true:=by simpa using h1
      rw [jY] at e2;exact ⟨_,rfl,_,rfl,fin (by show iT i=true; unfold iT; rw [e2]; simp)⟩
    ·have e1:i=0:=by simpa using h0
     exact bF ⟨_,rfl,_,rfl,fin (by show iT i=true; rw [e1]; rfl)⟩
  | _=>exact cb (cb ⟨by decide,hE rfl⟩)
noncomputable abbrev AL:Stmt:=aU (aZ 34) 6
noncomputable abbrev vW:Stmt:=aU (aZ 34) 8
noncomputable abbrev pA:Stmt:=aU (aZ 34) 10
noncomputable def FP (p:Int):Prop:=p=0\/p∈primes
theorem FP.nn {p:Int}(h:FP p):0<=p:=by
 rcases h with h | h
 ·omega
 ·have:=iD h; omega
theorem FP.two {p:Int}(h:FP p)(z:p≠0):p∈primes/\2<=p/\p<=97:=by
 rcases h with h | h
 ·exact absurd h z
 ·exact ⟨h,iD h⟩
noncomputable def iz (C:Addr):Sp:=λvs H Q _=>∃ (s dx:Addr)(p t b:Int),vs=[.ref s,.int t,.int b]/\H s=some (.ins C dx (eI p))/\FP p/\B 9000 b/\b≠0/\∀ a,H a=none->Q (.ref a) (upd H a (bD (c6 p t b) (dq p t b)))
noncomputable def n9 (C:Addr)(g:Int->Int->Int->Int->Int):Sp:=λvs H Q _=>∃ (s dx a1 a2:Addr)(p t1 b1 t2 b2:Int),vs=[.ref s,.ref a1,.ref a2]/\H s=some (.ins C dx (eI p))/\FP p/\H a1=some (bD t1 b1)/\H a2=some (bD t2 b2) /\
 B 4000 t1/\B 4000 b1/\B 4000 t2/\B 4000 b2/\b1≠0/\b2≠0/\∀ a,H a=none->Q (.ref a) (upd H a (bD (c6 p (g t1 b1 t2 b2) (b1 * b2)) (dq p (g t1 b1 t2 b2) (b1 * b2))))
noncomputable def jP (t1 b1 t2 b2:Int):Int:=t1 * b2 + t2 * b1
noncomputable def fO (t1 b1 t2 b2:Int):Int:=t1 * t2
theorem vj:FnScope ["self","top","bottom"] ["self","top","bottom"] (aq pA):=dX (by decide +kernel)
theorem qB {f C fl:Addr}{fd FK:FuncData}{tF:Tok}(F:Fun K "settled" "Field.settled" pA f fd)(c:FieldK K mg C)(mF:mg "FRACTIONS"=some (.int 0 tF))
 (FL:FnOk P w K mg base (aV P w) 2 fl FK ["top","bottom"] spLowest)(bL:L2.aA K FK ["top","bottom"] [])(mL:mg "lowest"=some (.ref fl))(kL:keepIn K (.ref fl)=true):
 FnOk P w K mg base (aV P w) 3 f fd ["self","top","bottom"] (iz C):=by
 refine F.okN vj (λvs H Q E h=>?_) (λFb A outer s H vs Q E hr h=>?_)
 ·obtain ⟨s,dx,p,t,b,rfl,_⟩:=h;rfl
 ·obtain ⟨s,dx,p,t,b,rfl,hs,hp,hB,hb,q⟩:=h
  refine ⟨_,ak (bg (aQ d8 (bK (pv 0) rfl) (cL (by rfl) mF (show aC (.int 0) (.int 0 tF) from ⟨_,rfl⟩)) (aI _))
   (ar (az (ax FL hr (by rfl) mL kL bL .nil ae (ai (pv 1) (ai (pv 2) af))))) aD)
   (ar (az (bV (ai (aJ dQ (pv 1) (bK (pv 0) rfl)) (ai aj af))))),?_⟩
  refine ⟨_,rfl,s,C,dx,_,_,rfl,hs,c.cl,c.nP,rfl,rfl,_,rfl,?_⟩;refine cz (λh=>?_) (λh=>?_)
  ·have FO:p=0:=by simpa using h
   refine ⟨_,rfl,_,rfl,t,b,rfl,hb,hB,λa ha=>?_⟩;have y:=q a ha;unfold c6 dq at y;rw [if_pos FO,if_pos FO] at y;exact y
  ·have FO:p≠0:=by simpa using h
   obtain ⟨SX,p2,Rw⟩:=hp.two FO;refine ⟨_,rfl,_,rfl,s,C,dx,_,_,rfl,hs,c.cl,c.nP,rfl,_,_,rfl,rfl,(by show (0:Int) < p; omega),kZ,λa ha=>?_⟩;have y:=q a ha;unfold c6 dq at y;rw [if_neg FO,if_neg FO] at y;exact y
theorem a0 (x y:V):qO [x,y] 0=some x:=rfl
theorem a1 (x y:V):qO [x,y] 1=some y:=rfl
theorem AX:FnScope ["self","one","other"] ["self","one","other"] (aq AL):=dX (by decide +kernel)
theorem mx {a b:Int}(h:a≠0)(k:b≠0):a * b≠0:=Int.mul_ne_zero h k
theorem yO {f C fs:Addr}{fd Jw:FuncData}(F:Fun K "plus" "Field.plus" AL f fd)(c:FieldK K mg C)(FS:FnOk P w K mg base (aV P w) 3 fs Jw ["self","top","bottom"] (iz C))(bS:L2.aA K Jw ["self","top","bottom"] [])(mS:L2.Meth K C "settled" fs):
 FnOk P w K mg base (aV P w) 4 f fd ["self","one","other"] (n9 C jP):=by
 refine F.okN AX (λvs H Q E h=>?_) (λFb A outer s H vs Q E hr h=>?_)
 ·obtain ⟨s,dx,a1,a2,p,t1,b1,t2,b2,rfl,_⟩:=h;rfl
 ·obtain ⟨s,dx,x1,x2,p,t1,b1,t2,b2,rfl,hs,hp,h1,h2,B1,B2,B3,B4,n1,n2,q⟩:=h;refine ⟨_,ar (az (aX (pv 0) c.cl mS FS hr bS .nil ae (ai (aJ eA (aJ de (aS a7 (pv 1) aj (λ_ _=>rfl)) (aS a7 (pv 2) aj (λ_ _=>rfl))) (aJ de (aS a7 (pv 2) aj (λ_ _=>rfl)) (aS a7 (pv 1) aj (λ_ _=>rfl)))) (ai (aJ de (aS a7 (pv 1) aj (λ_ _=>rfl)) (aS a7 (pv 2) aj (λ_ _=>rfl))) af)))),?_⟩;refine ⟨_,rfl,s,dx,_,rfl,hs,rfl,?_⟩;refine ⟨_,rfl,x1,_,0,_,rfl,rfl,a9.of h1,a0 _ _,_,rfl,x2,_,1,_,rfl,rfl,a9.of h2,a1 _ _,_,_,rfl,rfl,⟨B1.mono (by decide),B4.mono (by decide)⟩,?_⟩;refine ⟨_,rfl,x2,_,0,_,rfl,rfl,a9.of h2,a0 _ _,_,rfl,x1,_,1,_,rfl,rfl,a9.of h1,a1 _ _,_,_,rfl,rfl,⟨B3.mono (by decide),B2.mono (by decide)⟩,_,_,rfl,rfl,?_⟩;refine ⟨_,rfl,x1,_,1,_,rfl,rfl,a9.of h1,a1 _ _,_,rfl,x2,_,1,_,rfl,rfl,a9.of h2,a1 _ _,_,_,rfl,rfl,⟨B2.mono (by decide),B4.mono (by decide)⟩,?_⟩;exact ⟨s,dx,p,_,_,rfl,hs,hp,(B2.mul B4).mono (by decide),mx n1 n2,q⟩
noncomputable abbrev AE:Stmt:=(aZ 36)
noncomputable abbrev Aj:Stmt:=(aZ 37)
noncomputable abbrev AH:Stmt:=(aZ 38)
noncomputable abbrev Ah:Stmt:=(aZ 41)
noncomputable abbrev vJ:Stmt:=(aZ 42)
theorem av {H:Hp}{a:Addr}{o:HO}(h:H a=none):aB H (upd H a o):=λb u e=>by rw [ao (au e h)]; exact e
noncomputable def xF (K:PySem.W.Frag):Sp:=λvs H Q _=>∃ (a:Addr)(ns:List Int)(k:Int),vs=[.ref a,.int k]/\bu K H a (ns.map V.int)/\ns.length<=63/\0<=k/\k<=63 /\
 ∀ (p:Addr)(l r:Int),H p=none->0<=r->r < 2147483647->Q (.ref p) (upd H p (.lst [.int l,.int r]))
noncomputable def spTake:Sp:=λvs H Q _=>∃ (p:Addr)(l r m:Int),vs=[.ref p,.int m]/\H p=some (.lst [.int l,.int r])/\0<=r/\r < 2147483647/\0 < m/\m < 18446744073709551616 /\
 ∀ (z l' r':Int),0<=z->z < m->0<=r'->r' < 2147483647->Q (.int z) (upd H p (.lst [.int l',.int r']))
theorem gT {H:Hp}{Q:VK}{k l c:Int}{x:Option V}(Lp:0<=k)(Nu:k<=63)(q:∀ (p:Addr)(l r:Int),H p=none->0<=r->r < 2147483647->Q (.ref p) (upd H p (.lst [.int l,.int r]))):
 AQ (dZ (gH 3) (dZ (oh (rI (λ_ j=>0 < j) λi j=>.int (i % j)) (oh (rI vw λi j=>.int (i * j)) (oh (v8 λi j=>.int (i + j)) (oh (v8 λi j=>.int (i + j)) (oh (rI (λ_ j=>0 < j) λi j=>.int (i % j)) (gH 2) (tC (.int 2147483629)))
  (oh (rI vw λi j=>.int (i * j)) (oh (rI vw λi j=>.int (i * j)) (tC (.int 104729)) (gH 1)) (gH 1))) (tC (.int 7))) (tC (.int 48271))) (tC (.int 2147483647))) tNil)) [x,some (.int k),some (.int c),some (.int l)] H Q:=by
 have h1:(0:Int)<=104729 * k:=by omega
 have h2:104729 * k<=6597927:=by omega
 refine ⟨_,rfl,_,rfl,_,_,rfl,rfl,(by show (0:Int) < 2147483629; decide),_,rfl,_,_,rfl,rfl,.inl ⟨by decide,by decide⟩,_,rfl,_,_,rfl,rfl,.inl ⟨by omega,by omega⟩,_,_,rfl,rfl,_,_,rfl,rfl,_,_,rfl,rfl,.inr ⟨by decide,by decide⟩,_,_,rfl,rfl,(by show (0:Int) < 2147483647; decide),kZ,λp hp=>?_⟩;exact q p _ _ hp (Int.emod_nonneg _ (by decide)) (Int.emod_lt_of_pos _ (by decide))
theorem kd:FnScope ["_law_script","_law_k","_law_cell","_law_left"] ["_law_script","_law_k"] (aq AE):=dX (by decide +kernel)
theorem zP {f:Addr}{fd:FuncData}(F:Fun K "_law_room" "_law_room" AE f fd)(hlen:mg "len"=none):FnOk P w K mg base (aV P w) 1 f fd ["_law_script","_law_k"] (xF K):=by
 refine F.okN kd (λvs H Q E h=>?_) (λFb A outer s H vs Q E hr h=>?_)
 ·obtain ⟨a,ns,k,rfl,_⟩:=h;rfl
 ·obtain ⟨a,ns,k,rfl,hS,hn,Lp,Nu,q⟩:=h
  refine ⟨_,ak (aY (i:=2) kd.nd rfl (Or.inl rfl) aj)
   (ak (bg (aQ jJ (pv 1) (aF ck (by rfl) hlen PySem.boot_len (aO (pv 0) af)) (aI _))
    (ar (aY (i:=2) kd.nd rfl (Or.inl rfl) (aS bA (pv 0) (pv 1) (λ_ _=>rfl)))) aD)
   (ak (aY (i:=3) kd.nd rfl (Or.inl rfl) aj)
   (ak (bg (aQ AB (pv 2) (aJ iO aj aj) (aI _)) (ar (aY (i:=3) kd.nd rfl (Or.inl rfl) (pv 2))) aD)
   (ar (az (cW (aO (pv 3) (aO
    (aJ dQ (aJ eE (aJ eA (aJ eA (aJ dQ (pv 2) aj) (aJ eE (aJ eE aj (pv 1)) (pv 1))) aj) aj) aj) af)))))))),?_⟩
  refine ⟨_,rfl,_,rfl,a,_,rfl,.inl hS,_,_,rfl,rfl,_,rfl,?_⟩;refine cz (λh=>?_) (λh=>?_)
  ·have Fd:k.toNat < ns.length:=by
    have h1:=of_decide_eq_true h;rw [List.length_map] at h1;omega
   obtain ⟨c,hc⟩:∃ c,qO (ns.map V.int) k=some (V.int c):=by
    refine ⟨ns[k.toNat],?_⟩
    have e:((k.toNat:Nat):Int)=k:=by omega
    have z:=tG (xs:=ns.map V.int) (j:=k.toNat) (v:=V.int ns[k.toNat]) (by rw [List.getElem?_map]; simp [Fd]);rw [e] at z;exact z
   refine ⟨_,rfl,_,rfl,a,_,k,_,rfl,rfl,hS,hc,?_⟩;refine ⟨_,rfl,_,_,rfl,rfl,⟨by decide,by decide,by decide⟩,_,_,rfl,rfl,_,rfl,?_⟩;refine cz (λh2=>?_) (λh2=>?_)
   ·exact ⟨_,rfl,gT Lp Nu q⟩
   ·exact gT Lp Nu q
  ·refine ⟨_,rfl,_,_,rfl,rfl,⟨by decide,by decide,by decide⟩,_,_,rfl,rfl,_,rfl,?_⟩;refine cz (λh2=>?_) (λh2=>?_)
   ·exact ⟨_,rfl,gT Lp Nu q⟩
   ·exact gT Lp Nu q
theorem my:FnScope ["_law_room_here","_law_many","_law_found"] ["_law_room_here","_law_many"] (aq Aj):=dX (by decide +kernel)
theorem y4 {f:Addr}{fd:FuncData}(F:Fun K "_law_take" "_law_take" Aj f fd):FnOk P w K mg base (aV P w) 1 f fd ["_law_room_here","_law_many"] spTake:=by
 refine F.okN my (λvs H Q E h=>?_) (λFb A outer s H vs Q E hr h=>?_)
 ·obtain ⟨p,l,r,m,rfl,_⟩:=h;rfl
 ·obtain ⟨p,l,r,m,rfl,hp,Rx,FF,MB,hm1,q⟩:=h
  refine ⟨_,ak (bg (aQ pz (aS bA (pv 0) aj (λ_ _=>rfl)) aj (aI _))
   (ak (aY (i:=2) my.nd rfl (Or.inl rfl) (aJ dQ (aS bA (pv 0) aj (λ_ _=>rfl)) (pv 1)))
   (ak (iP (aJ fG (aS bA (pv 0) aj (λ_ _=>rfl)) (pv 1)) (qY (pv 0) aj kF))
   (ar (az (pv 2))))) aD)
   (ak (iP (aJ dQ (aJ eA (aJ eE (aS bA (pv 0) aj (λ_ _=>rfl)) aj) aj) aj) (qY (pv 0) aj kF))
   (ak (aY (i:=2) my.nd rfl (Or.inl rfl) (aJ yV (aJ dQ (aJ eE (aS bA (pv 0) aj (λ_ _=>rfl)) (aS bA (pv 0) aj (λ_ _=>rfl))) aj) aj))
   (ak (bg (aQ pz (pv 1) (aJ iO aj aj) (aI _))
    (ak (iP (aJ dQ (aJ eA (aJ eE (aS bA (pv 0) aj (λ_ _=>rfl)) aj) aj) aj) (qY (pv 0) aj kF))
    (ar (aY (i:=2) my.nd rfl (Or.inl rfl) (aJ eA (aJ eE (pv 2) aj) (aJ dQ (aJ eE (aS bA (pv 0) aj (λ_ _=>rfl)) (aS bA (pv 0) aj (λ_ _=>rfl))) aj))))) aD)
   (ar (az (aJ dQ (pv 2) (pv 1))))))),?_⟩
  have i0:∀ x y:V,qO [x,y] 0=some x:=λ_ _=>rfl;have i1:∀ x y:V,qO [x,y] 1=some y:=λ_ _=>rfl;have n0:yI [V.int l,V.int r].length 0=some 0:=rfl;have n1:∀ x y:V,yI [x,y].length 1=some 1:=λ_ _=>rfl;refine ⟨_,rfl,p,_,0,_,rfl,rfl,bu.of hp,i0 _ _,_,_,rfl,rfl,_,rfl,?_⟩;refine cz (λh=>?_) (λh=>?_)
  ·refine ⟨_,rfl,p,_,0,_,rfl,rfl,bu.of hp,i0 _ _,_,rfl,_,_,rfl,rfl,MB,?_⟩;refine ⟨_,rfl,p,_,0,_,rfl,rfl,bu.of hp,i0 _ _,_,rfl,_,_,rfl,rfl,⟨by omega,(show B 64 m from (by show m.natAbs < 2 ^ 64; omega)).mono (by decide)⟩,_,rfl,p,_,0,0,rfl,rfl,hp,n0,?_⟩;exact ⟨_,rfl,q _ _ _ (Int.emod_nonneg _ (by omega)) (Int.emod_lt_of_pos _ MB) Rx FF⟩
  ·have e1:∀ t:Int,0<=t % 2147483647/\t % 2147483647 < 2147483647:=λt=>⟨Int.emod_nonneg _ (by decide),Int.emod_lt_of_pos _ (by decide)⟩;refine ⟨_,rfl,p,_,1,_,rfl,rfl,bu.of hp,i1 _ _,_,_,rfl,rfl,.inl ⟨by omega,by omega⟩,_,_,rfl,rfl,_,_,rfl,rfl,(by show (0:Int) < 2147483647; decide),_,rfl,p,_,1,1,rfl,rfl,hp,n1 _ _,?_⟩;refine ⟨_,rfl,p,_,1,_,rfl,rfl,bu.of ah,i1 _ _,_,rfl,p,_,1,_,rfl,rfl,bu.of ah,i1 _ _,_,_,rfl,rfl,.inl ⟨by omega,by omega⟩,_,_,rfl,rfl,(by show (0:Int) < 2147483629; decide),_,_,rfl,rfl,⟨by decide,by decide⟩,?_⟩;refine ⟨_,rfl,_,_,rfl,rfl,⟨by decide,by decide,by decide⟩,_,_,rfl,rfl,_,rfl,?_⟩;refine cz (λh2=>?_) (λh2=>?_)
   ·refine ⟨_,rfl,p,_,1,_,rfl,rfl,bu.of ah,i1 _ _,_,_,rfl,rfl,.inl ⟨by omega,by omega⟩,_,_,rfl,rfl,_,_,rfl,rfl,(by show (0:Int) < 2147483647; decide),_,rfl,p,_,1,1,rfl,rfl,ah,n1 _ _,?_⟩;rw [sN];refine ⟨_,rfl,_,_,rfl,rfl,.inr ⟨by decide,by decide⟩,_,rfl,p,_,1,_,rfl,rfl,bu.of ah,i1 _ _,_,rfl,p,_,1,_,rfl,rfl,bu.of ah,i1 _ _,_,_,rfl,rfl,.inl ⟨by omega,by omega⟩,_,_,rfl,rfl,(by show (0:Int) < 2147483587; decide),_,_,rfl,rfl,?_⟩;exact ⟨_,rfl,_,rfl,_,_,rfl,rfl,MB,q _ _ _ (Int.emod_nonneg _ (by omega)) (Int.emod_lt_of_pos _ MB) (e1 _).1 (e1 _).2⟩
   ·exact ⟨_,rfl,_,rfl,_,_,rfl,rfl,MB,q _ _ _ (Int.emod_nonneg _ (by omega)) (Int.emod_lt_of_pos _ MB) (e1 _).1 (e1 _).2⟩
noncomputable def Dt (H:Hp)(Q:VK)(t b:Int):Prop:=∀ (H':Hp)(a:Addr),aB H H'->H' a=some (bD t b)->Q (.ref a) H'
theorem Dt.of {H H':Hp}{Q:VK}{t b:Int}(q:Dt H Q t b)(S:aB H H'):∀ a,H' a=none->Q (.ref a) (upd H' a (bD t b)):=λa ha=>q _ a (S.trans (av ha)) ah
noncomputable def spLLow:Sp:=λvs H Q _=>∃ t b:Int,vs=[.int t,.int b]/\b≠0/\B 9000 b/\B 9000 t/\Dt H Q (cM t b) (b7 t b)
noncomputable def spMake:Sp:=λvs H Q _=>∃ p t b:Int,vs=[.int p,.int t,.int b]/\FP p/\b≠0/\B 9000 b/\B 9000 t/\(p≠0->b=1)/\Dt H Q (c6 p t b) (dq p t b)
noncomputable def jQ (g:Int->Int->Int->Int->Int):Sp:=λvs H Q _=>∃ (p t1 b1 t2 b2:Int)(a1 a2:Addr),vs=[.int p,.ref a1,.ref a2]/\FP p/\H a1=some (bD t1 b1)/\H a2=some (bD t2 b2)/\B 4000 t1/\B 4000 b1/\B 4000 t2/\B 4000 b2/\b1≠0/\b2≠0/\(p≠0->b1 * b2=1) /\
 Dt H Q (c6 p (g t1 b1 t2 b2) (b1 * b2)) (dq p (g t1 b1 t2 b2) (b1 * b2))
noncomputable abbrev DQ:List Str:=["_law_top","_law_bottom","_law_one","_law_other","_law_sign"]
theorem j8:FnScope DQ ["_law_top","_law_bottom"] (aq AH):=dX (by decide +kernel)
theorem Ag (c:Int):(if c < 0 then -c else c)=ab c:=rfl
theorem zf {f:Addr}{fd:FuncData}(F:Fun K "_law_lowest" "_law_lowest" AH f fd)(mA:mg "abs"=none)(mI:mg "int"=none):FnOk P w K mg base (aV P w) 1 f fd ["_law_top","_law_bottom"] spLLow:=by
 refine F.okN j8 (λvs H Q E h=>?_) (λFb A outer s H vs Q E hr h=>?_)
 ·obtain ⟨a,b,rfl,_⟩:=h;rfl
 ·obtain ⟨t,b,rfl,hb,hB,hT,q⟩:=h
  refine ⟨_,ak (aY (i:=2) j8.nd rfl (Or.inl rfl) (aF gZ (by rfl) mA (by rfl) (ai (pv 0) af)))
   (ak (aY (i:=3) j8.nd rfl (Or.inl rfl) (aF gZ (by rfl) mA (by rfl) (ai (pv 1) af)))
   (ak (oF PassesOwn.never (aQ gm (pv 3) aj (aI _)) (ar (rD (i:=2) (j:=3) rfl j8.nd rfl rfl (by decide) rfl rfl (ai (pv 3) (ai (aJ sk (pv 2) (pv 3)) af)) rfl)))
   (ak (aY (i:=4) j8.nd rfl (Or.inl rfl) (aS bA (cW (ai aj (ai (Am xf aj) af))) (c9 ig (by rfl) mI (by rfl) (ai (bZ jJ (pv 1) aj (aI _)) af)) (λ_ _=>rfl)))
   (ar (az (bV (ai (aJ fG (aJ eE (pv 4) (pv 0)) (pv 2)) (ai (aJ fG (aF gZ (by rfl) mA (by rfl) (ai (pv 1) af)) (pv 2)) af)))))))),?_⟩
  refine ⟨_,rfl,t,rfl,_,rfl,b,rfl,?_⟩;rw [Ag,Ag];refine ⟨λm σ H'=>∃ c d:Int,σ=[some (.int t),some (.int b),some (.int c),some (.int d),none]/\H'=H/\m=d.natAbs/\Int.gcd c d=Int.gcd t b/\0<=c/\0<=d,⟨_,ab t,ab b,rfl,rfl,rfl,Bc t b,by rw [jt]; omega,by rw [jt]; omega⟩,?_⟩;rintro m σ H' ⟨c,d,rfl,rfl,rfl,hg,hc0,Rv⟩;refine ⟨_,rfl,rfl,_,rfl,?_⟩;refine cz (λh=>?_) (λh=>?_)
  ·have hd:d≠0:=by simpa using h
   refine ⟨λσ' HN=>∃ c' d':Int,σ'=[some (.int t),some (.int b),some (.int c'),some (.int d'),none]/\HN=H'/\d'.natAbs < d.natAbs/\Int.gcd c' d'=Int.gcd t b/\0<=c'/\0<=d',λσ' HN ⟨c',d',e1,e2,e3,e4,e5,e6⟩=>⟨_,e3,c',d',e1,e2,rfl,e4,e5,e6⟩,?_⟩;refine ⟨_,rfl,_,rfl,_,rfl,_,_,rfl,rfl,hd,_,_,rfl,d,c.fmod d,rfl,rfl,sV c d hd,by rw [pX,hg],Rv,Int.fmod_nonneg_of_pos c (by omega)⟩
  ·have hd:d=0:=by simpa using h
   subst hd
   have eg:c=cS t b:=by
    unfold cS;rw [<-hg];simp;omega
   have gp:=eM (t:=t) hb;have WJ:B 9000 (cS t b):=hB.le (Bq hb);subst eg;refine ⟨_,rfl,kZ,λz hz=>?_⟩;have S:=av (o:=.lst [V.int 1,V.int (-1)]) hz;refine ⟨_,rfl,_,_,rfl,rfl,.inr ⟨_,rfl,?_⟩⟩
   have GC:qO [V.int 1,V.int (-1)] (if decide (b < 0)=true then 1 else 0)=some (.int (sg b)):=by
    unfold sg
    by_cases Jx:b < 0
    ·simp [Jx]; rfl
    ·simp [Jx]; rfl
   refine ⟨z,_,_,_,rfl,rfl,bu.of ah,GC,?_⟩
   have sg1:-1<=sg b/\sg b<=1:=by unfold sg; split <;> decide
   refine ⟨_,rfl,_,rfl,_,_,rfl,rfl,.inl ⟨by omega,by omega⟩,_,rfl,_,_,rfl,rfl,⟨by omega,WJ⟩,_,rfl,b,rfl,_,rfl,_,_,rfl,rfl,⟨by omega,WJ⟩,kZ,λa ha=>?_⟩;have y:=q.of S a ha;rw [<-CI (t:=t) hb,<-Dh (t:=t) hb] at y;exact y
theorem BW:FnScope ["_law_prime_here","_law_top","_law_bottom"] ["_law_prime_here","_law_top","_law_bottom"] (aq Ah):=dX (by decide +kernel)
theorem zj {f fl:Addr}{fd FK:FuncData}(F:Fun K "_law_make" "_law_make" Ah f fd)(FL:FnOk P w K mg base (aV P w) 1 fl FK ["_law_top","_law_bottom"] spLLow)(bL:L2.aA K FK ["_law_top","_law_bottom"] [])(mL:mg "_law_lowest"=some (.ref fl))(kL:keepIn K (.ref fl)=true):
 FnOk P w K mg base (aV P w) 2 f fd ["_law_prime_here","_law_top","_law_bottom"] spMake:=by
 refine F.okN BW (λvs H Q E h=>?_) (λFb A outer s H vs Q E hr h=>?_)
 ·obtain ⟨p,t,b,rfl,_⟩:=h;rfl
 ·obtain ⟨p,t,b,rfl,hp,hb,hB,hT,h1,q⟩:=h
  refine ⟨_,ak (bg (aQ d8 (pv 0) aj (aI _)) (ar (az (ax FL hr (by rfl) mL kL bL .nil ae (ai (pv 1) (ai (pv 2) af))))) aD)
   (ak (bg (aQ gm (aJ dQ (pv 2) (pv 0)) aj (aI _)) uL aD)
   (ar (az (bV (ai (aJ dQ (pv 1) (pv 0)) (ai aj af)))))),?_⟩
  refine ⟨_,rfl,rfl,_,rfl,?_⟩;refine cz (λh=>?_) (λh=>?_)
  ·have FO:p=0:=by simpa using h
   unfold c6 dq at q;rw [if_pos FO,if_pos FO] at q;exact ⟨_,rfl,_,rfl,t,b,rfl,hb,hB,hT,q⟩
  ·have FO:p≠0:=by simpa using h
   obtain ⟨SX,p2,Rw⟩:=hp.two FO;have Ry:=h1 FO;subst Ry;refine ⟨_,rfl,_,rfl,_,_,rfl,rfl,(by show (0:Int) < p; omega),rfl,_,rfl,?_⟩;have e1:(1:Int) % p=1:=Int.emod_eq_of_lt (by decide) (by omega);refine cz (λh=>absurd h (by simp [e1])) (λ_=>?_);unfold c6 dq at q;rw [if_neg FO,if_neg FO] at q;exact ⟨_,rfl,_,rfl,_,_,rfl,rfl,(by show (0:Int) < p; omega),kZ,q.of (aB.refl _)⟩
theorem zw:FnScope ["_law_prime_here","_law_one","_law_other"] ["_law_prime_here","_law_one","_law_other"] (aq vJ):=dX (by decide +kernel)
theorem xc {f fl:Addr}{fd FK:FuncData}(F:Fun K "_law_plus" "_law_plus" vJ f fd)(FL:FnOk P w K mg base (aV P w) 2 fl FK ["_law_prime_here","_law_top","_law_bottom"] spMake)(bL:L2.aA K FK ["_law_prime_here","_law_top","_law_bottom"] [])(mL:mg "_law_make"=some (.ref fl))(kL:keepIn K (.ref fl)=true):
 FnOk P w K mg base (aV P w) 3 f fd ["_law_prime_here","_law_one","_law_other"] (jQ jP):=by
 refine F.okN zw (λvs H Q E h=>?_) (λFb A outer s H vs Q E hr h=>?_)
 ·obtain ⟨p,t1,b1,t2,b2,x1,x2,rfl,_⟩:=h;rfl
 ·obtain ⟨p,t1,b1,t2,b2,x1,x2,rfl,hp,h1,h2,B1,B2,B3,B4,n1,n2,hb,q⟩:=h;refine ⟨_,ar (az (ax FL hr (by rfl) mL kL bL .nil ae (ai (pv 0) (ai (aJ eA (aJ de (aS a7 (pv 1) aj (λ_ _=>rfl)) (aS a7 (pv 2) aj (λ_ _=>rfl))) (aJ de (aS a7 (pv 2) aj (λ_ _=>rfl)) (aS a7 (pv 1) aj (λ_ _=>rfl)))) (ai (aJ de (aS a7 (pv 1) aj (λ_ _=>rfl)) (aS a7 (pv 2) aj (λ_ _=>rfl))) af))))),?_⟩;refine ⟨_,rfl,?_⟩;refine ⟨_,rfl,x1,_,0,_,rfl,rfl,a9.of h1,a0 _ _,_,rfl,x2,_,1,_,rfl,rfl,a9.of h2,a1 _ _,_,_,rfl,rfl,⟨B1.mono (by decide),B4.mono (by decide)⟩,?_⟩;refine ⟨_,rfl,x2,_,0,_,rfl,rfl,a9.of h2,a0 _ _,_,rfl,x1,_,1,_,rfl,rfl,a9.of h1,a1 _ _,_,_,rfl,rfl,⟨B3.mono (by decide),B2.mono (by decide)⟩,_,_,rfl,rfl,?_⟩;refine ⟨_,rfl,x1,_,1,_,rfl,rfl,a9.of h1,a1 _ _,_,rfl,x2,_,1,_,rfl,rfl,a9.of h2,a1 _ _,_,_,rfl,rfl,⟨B2.mono (by decide),B4.mono (by decide)⟩,?_⟩;exact ⟨p,_,_,rfl,hp,mx n1 n2,(B2.mul B4).mono (by decide),((B1.mul B4).add (B3.mul B2)).mono (by decide),hb,q⟩
noncomputable abbrev xS:Stmt:=(aZ 44)
noncomputable abbrev tU:Stmt:=(aZ 45)
noncomputable def a8 (H:Hp)(r:Addr):Prop:=∃ l x:Int,H r=some (.lst [.int l,.int x])/\0<=x/\x < 2147483647
noncomputable def SameBut (r:Addr)(H H':Hp):Prop:=∀ b o,H b=some o->b≠r->H' b=some o
theorem SameBut.trans {r:Addr}{H H1 H2:Hp}(a:SameBut r H H1)(b:SameBut r H1 H2):SameBut r H H2:=λc o e n=>b c o (a c o e n) n
theorem SameBut.of {r:Addr}{H H1:Hp}(a:aB H H1):SameBut r H H1:=λc o e _=>a c o e
theorem SameBut.upd {r:Addr}{H:Hp}{o:HO}:SameBut r H (upd H r o):=λb u e n=>by rw [ao n]; exact e
noncomputable def spPrimeL:Sp:=λvs H Q _=>∃ r:Addr,vs=[.ref r]/\a8 H r/\∀ (p:Int)(H':Hp),FP p->a8 H' r->SameBut r H H'->Q (.int p) H'
noncomputable def spNumber:Sp:=λvs H Q _=>∃ (r:Addr)(p:Int),vs=[.ref r,.int p]/\FP p/\a8 H r/\∀ (a:Addr)(t b:Int)(H':Hp),Num p t b->B 45 t->B 45 b->H' a=some (bD t b)->a8 H' r->SameBut r H H'->Q (.ref a) H'
theorem Bt {K:Frag}{H:Hp}{a:Addr}{t b:Int}(h:H a=some (bD t b)):aL K H (.tup [.int t,.int b]) (.ref a):=by
 unfold aL;refine ⟨a,_,rfl,a9.of h,?_⟩;unfold bq;refine ⟨_,_,rfl,by unfold aL; rfl,?_⟩;unfold bq;refine ⟨_,_,rfl,by unfold aL; rfl,?_⟩;unfold bq;rfl
theorem DB (t b:Int):jd (.tup [.int t,.int b])=1:=by simp [jd,eF]
theorem EK (t b u d:Int):dU (.tup [.int t,.int b]) (.tup [.int u,.int d])=(t == u&&b == d):=by simp [dU,dk]
theorem ja {xs:List Int}{w:Int}(h0:0<=w)(h1:w < xs.length):∃ x∈xs,qO (xs.map V.int) w=some (.int x):=by
 have hl:w.toNat < xs.length:=by omega
 refine ⟨xs[w.toNat],List.getElem_mem hl,?_⟩;have z:=tG (xs:=xs.map V.int) (j:=w.toNat) (v:=V.int xs[w.toNat]) (by rw [List.getElem?_map]; simp [hl])
 have e:((w.toNat:Nat):Int)=w:=by omega
 rw [e] at z;exact z
theorem jK:FnScope ["_law_room_here","_law_at","_law_some"] ["_law_room_here"] (aq xS):=dX (by decide +kernel)
set_option maxHeartbeats 1000000 in
theorem vg {f ft:Addr}{fd F2:FuncData}(F:Fun K "_law_prime" "_law_prime" xS f fd)(FT:FnOk P w K mg base (aV P w) 1 ft F2 ["_law_room_here","_law_many"] spTake)(bT:L2.aA K F2 ["_law_room_here","_law_many"] [])(mT:mg "_law_take"=some (.ref ft))(kT:keepIn K (.ref ft)=true):
 FnOk P w K mg base (aV P w) 2 f fd ["_law_room_here"] spPrimeL:=by
 refine F.okN jK (λvs H Q E h=>?_) (λFb A outer s H vs Q E hr h=>?_)
 ·obtain ⟨r,rfl,_⟩:=h;rfl
 ·obtain ⟨r,rfl,⟨l,x,hR,x0,x1⟩,q⟩:=h
  refine ⟨_,ak (aY (i:=1) jK.nd rfl (Or.inl rfl) (ax FT hr (by rfl) mT kT bT .nil ae (ai (pv 0) (ai aj af))))
   (ak (bg (aQ d8 (pv 1) aj (aI _))
    (@ak _ _ _ _ _ (@aY _ _ 2 _ _ _ _ jK.nd rfl (Or.inl rfl) (@mX _ _ _ [11,13,17,19,23,29,31,37,41,43,47,53,59,61,67,71,73,79,83,89] rfl (by decide)) rfl (Or.inl rfl))
    (ar (az (aS bA (pv 2) (ax FT hr (by rfl) mT kT bT .nil ae (ai (pv 0) (ai aj af))) (λ_ _=>rfl))))) aD)
   (@ar _ _ _ (@az _ _ _ _ (@aS _ _ _ _ _ _ _ bA (@mX _ _ _ [0,0,2,3,5,7,97,0] rfl (by decide)) (pv 1) (λ_ _=>rfl))))),?_⟩
  refine ⟨_,rfl,r,l,x,9,rfl,hR,x0,x1,by decide,by decide,λz l2 r2 z0 z1 g0 g1=>?_⟩;refine ⟨_,rfl,rfl,_,rfl,?_⟩;have LA:(upd H r (.lst [.int l2,.int r2])) r=some (.lst [.int l2,.int r2]):=ah;have S2:SameBut r H (upd H r (.lst [.int l2,.int r2])):=SameBut.upd;generalize (upd H r (.lst [.int l2,.int r2]))=H2 at LA S2 |-;refine cz (λh=>?_) (λh=>?_)
  ·refine λm hm=>?_;have S3:=av (o:=.lst ([11,13,17,19,23,29,31,37,41,43,47,53,59,61,67,71,73,79,83,89].map V.int)) hm;have em:(upd H2 m (.lst ([11,13,17,19,23,29,31,37,41,43,47,53,59,61,67,71,73,79,83,89].map V.int))) m=some (.lst ([11,13,17,19,23,29,31,37,41,43,47,53,59,61,67,71,73,79,83,89].map V.int)):=ah;have JS:=S3 _ _ LA;refine ⟨_,rfl,_,rfl,r,l2,r2,20,rfl,JS,g0,g1,by decide,by decide,λz' l3 r3 Zd Ze Zf Nv=>?_⟩;obtain ⟨y,hy,GC⟩:=ja (xs:=[11,13,17,19,23,29,31,37,41,43,47,53,59,61,67,71,73,79,83,89]) Zd Ze;have nm:m≠r:=oJ em JS (by intro z; cases z);refine ⟨m,_,z',_,rfl,rfl,bu.of (by rw [ao nm]; exact em),GC,?_⟩
   have all:∀ y∈([11,13,17,19,23,29,31,37,41,43,47,53,59,61,67,71,73,79,83,89]:List Int),y∈primes:=by decide
   exact q y _ (.inr (all y hy)) ⟨l3,r3,ah,Zf,Nv⟩ ((S2.trans (SameBut.of S3)).trans SameBut.upd)
  ·have hz:z < 8:=by
    have:z≠8:=by simpa using h
    omega
   refine λm hm=>?_;have S3:=av (o:=.lst ([0,0,2,3,5,7,97,0].map V.int)) hm;have em:(upd H2 m (.lst ([0,0,2,3,5,7,97,0].map V.int))) m=some (.lst ([0,0,2,3,5,7,97,0].map V.int)):=ah;obtain ⟨y,hy,GC⟩:=ja (xs:=[0,0,2,3,5,7,97,0]) z0 hz;refine ⟨_,rfl,m,_,z,_,rfl,rfl,bu.of em,GC,?_⟩
   have all:∀ y∈([0,0,2,3,5,7,97,0]:List Int),y=0\/y∈primes:=by decide
   exact q y _ (all y hy) ⟨l2,r2,S3 _ _ LA,g0,g1⟩ (S2.trans (SameBut.of S3))
theorem wq:FnScope ["_law_room_here","_law_prime_here"] ["_law_room_here","_law_prime_here"] (aq tU):=dX (by decide +kernel)
theorem tW {H H2:Hp}{Q:VK}{r:Addr}{t b:Int}(q:∀ (a:Addr)(t b:Int)(H':Hp),Num 0 t b->B 45 t->B 45 b->H' a=some (bD t b)->a8 H' r->SameBut r H H'->Q (.ref a) H')(hb:0 < b)(hB:B 45 b)(hT:B 45 t)(hR:a8 H2 r)(S:SameBut r H H2):spLLow [.int t,.int b] H2 Q λ_ _ _=>False:=by
 have Jx:b≠0:=by omega
 refine ⟨t,b,rfl,Jx,hB.mono (by decide),hT.mono (by decide),λH' a S' e=>?_⟩;refine q a _ _ H' (Num.low Jx) (hT.le (sJ Jx)) (hB.le (tR Jx)) e ?_ (S.trans (SameBut.of S'));obtain ⟨l,x,h,z⟩:=hR;exact ⟨l,x,S' _ _ h,z⟩
set_option maxHeartbeats 1000000 in
theorem ua {f ft fl:Addr}{fd F2 FK:FuncData}(F:Fun K "_law_number" "_law_number" tU f fd)(FT:FnOk P w K mg base (aV P w) 1 ft F2 ["_law_room_here","_law_many"] spTake)(bT:L2.aA K F2 ["_law_room_here","_law_many"] [])(mT:mg "_law_take"=some (.ref ft))(kT:keepIn K (.ref ft)=true)
 (FL:FnOk P w K mg base (aV P w) 1 fl FK ["_law_top","_law_bottom"] spLLow)(bL:L2.aA K FK ["_law_top","_law_bottom"] [])(mL:mg "_law_lowest"=some (.ref fl))(kL:keepIn K (.ref fl)=true):
 FnOk P w K mg base (aV P w) 2 f fd ["_law_room_here","_law_prime_here"] spNumber:=by
 refine F.okN wq (λvs H Q E h=>?_) (λFb A outer s H vs Q E hr h=>?_)
 ·obtain ⟨r,p,rfl,_⟩:=h;rfl
 ·obtain ⟨r,p,rfl,hp,⟨l,x,hR,x0,x1⟩,q⟩:=h
  refine ⟨_,ak (bg (aQ pz (pv 1) aj (aI _)) (ar (az (bV (ai (ax FT hr (by rfl) mT kT bT .nil ae (ai (pv 0) (ai (pv 1) af))) (ai aj af))))) aD)
   (ak (bg (aQ d8 (ax FT hr (by rfl) mT kT bT .nil ae (ai (pv 0) (ai aj af))) aj (aI _))
    (ar (az (ax FL hr (by rfl) mL kL bL .nil ae
     (ai (aJ wz (ax FT hr (by rfl) mT kT bT .nil ae (ai (pv 0) (@ai _ _ _ _ _ (@aJ _ _ _ _ _ _ _ _ eE aj (@aJ _ _ _ _ _ _ _ _ iO aj aj)) af rfl))) (@aJ _ _ _ _ _ _ _ _ iO aj aj))
     (@ai _ _ _ _ _ (@aS _ _ _ _ _ _ _ bA (@cW _ _ _ _ (@ai _ _ _ _ _ aj (@ai _ _ _ _ _ aj (@ai _ _ _ _ _ (@aJ _ _ _ _ _ _ _ _ iO aj aj) (@ai _ _ _ _ _ (@aJ _ _ _ _ _ _ _ _ eA (@aJ _ _ _ _ _ _ _ _ iO aj aj) aj) af rfl) rfl) rfl) rfl))
       (ax FT hr (by rfl) mT kT bT .nil ae (ai (pv 0) (ai aj af))) (λ_ _=>rfl)) af rfl))))) aD)
   (ar (az (ax FL hr (by rfl) mL kL bL .nil ae
    (ai (aJ wz (ax FT hr (by rfl) mT kT bT .nil ae (ai (pv 0) (ai aj af))) aj)
    (@ai _ _ _ _ _ (@aS _ _ _ _ _ _ _ bA (@mX _ _ _ [1,1,2,3] rfl (by decide)) (ax FT hr (by rfl) mT kT bT .nil ae (ai (pv 0) (ai aj af))) (λ_ _=>rfl)) af rfl)))))),?_⟩
  refine ⟨_,rfl,_,_,rfl,rfl,_,rfl,?_⟩;refine cz (λh=>?_) (λh=>?_)
  ·have FO:0 < p:=by simpa using h
   obtain ⟨_,p2,Rw⟩:=hp.two (by omega);refine ⟨_,rfl,_,rfl,r,l,x,p,rfl,hR,x0,x1,FO,by omega,λz l2 r2 z0 z1 g0 g1=>?_⟩;refine ⟨kZ,λa ha=>?_⟩;have S:=av (o:=bD z 1) ha;refine q a z 1 _ (Num.ofP z0 z1) ?_ (by show (1:Int).natAbs < 2 ^ 45; decide) ah ⟨l2,r2,S _ _ ah,g0,g1⟩ (SameBut.upd.trans (SameBut.of S));show z.natAbs < 2 ^ 45;omega
  ·have FO:p=0:=by
    have:=hp.nn
    have h':¬ 0 < p:=by simpa using h
    omega
   subst FO;refine ⟨_,rfl,r,l,x,8,rfl,hR,x0,x1,by decide,by decide,λz l2 r2 z0 z1 g0 g1=>⟨rfl,_,rfl,?_⟩⟩;have LA:(upd H r (.lst [.int l2,.int r2])) r=some (.lst [.int l2,.int r2]):=ah;have S2:SameBut r H (upd H r (.lst [.int l2,.int r2])):=SameBut.upd;generalize (upd H r (.lst [.int l2,.int r2]))=H2 at LA S2 |-;refine cz (λh=>?_) (λh=>?_)
   ·refine ⟨_,rfl,_,_,rfl,rfl,⟨by decide,by decide,by decide⟩,_,_,rfl,rfl,.inl ⟨by decide,by decide⟩,r,l2,r2,_,rfl,LA,g0,g1,by decide,by decide,λy l3 r3 y0 y1 k0 k1=>?_⟩;refine ⟨_,_,rfl,rfl,⟨by decide,by decide,by decide⟩,_,_,rfl,rfl,?_⟩;refine ⟨_,_,rfl,rfl,⟨by decide,by decide,by decide⟩,_,_,rfl,rfl,⟨by decide,by decide,by decide⟩,_,_,rfl,rfl,EZ,λm hm=>?_⟩;have S3:SameBut r H2 (upd H2 r (.lst [.int l3,.int r3])):=SameBut.upd;have JS:(upd H2 r (.lst [.int l3,.int r3])) r=some (.lst [.int l3,.int r3]):=ah;generalize (upd H2 r (.lst [.int l3,.int r3]))=H3 at hm S3 JS |-;have S4:=av (o:=.lst ([1,7,10 ^ (6:Int).toNat,10 ^ (12:Int).toNat + 39].map V.int)) hm;have em:(upd H3 m (.lst ([1,7,10 ^ (6:Int).toNat,10 ^ (12:Int).toNat + 39].map V.int))) m=some (.lst ([1,7,10 ^ (6:Int).toNat,10 ^ (12:Int).toNat + 39].map V.int)):=ah;have Nw:=S4 _ _ JS;refine ⟨_,rfl,r,l3,r3,4,rfl,Nw,k0,k1,by decide,by decide,λv l4 r4 v0 v1 j0 j1=>?_⟩;have nm:m≠r:=oJ em Nw (by intro z; cases z);obtain ⟨b,hb,GC⟩:=ja (xs:=[1,7,10 ^ (6:Int).toNat,10 ^ (12:Int).toNat + 39]) v0 v1;refine ⟨m,_,v,_,rfl,rfl,bu.of (by rw [ao nm]; exact em),GC,?_⟩
    have bb:∀ b∈([1,7,10 ^ (6:Int).toNat,10 ^ (12:Int).toNat + 39]:List Int),0 < b/\b.natAbs < 2 ^ 45:=by decide
    obtain ⟨b0,bB⟩:=bb b hb;refine tW (H:=H) q b0 bB ?_ ⟨l4,r4,ah,j0,j1⟩ (((S2.trans S3).trans (SameBut.of S4)).trans SameBut.upd)
    have e1:(2:Int) * 10 ^ (12:Int).toNat=2000000000000:=by decide
    have e2:(10:Int) ^ (12:Int).toNat=1000000000000:=by decide
    rw [e1] at y1;show (y - 10 ^ (12:Int).toNat).natAbs < 2 ^ 45;rw [e2];omega
   ·refine ⟨_,rfl,r,l2,r2,19,rfl,LA,g0,g1,by decide,by decide,λy l3 r3 y0 y1 k0 k1=>?_⟩;refine ⟨_,_,rfl,rfl,λm hm=>?_⟩;have S3:SameBut r H2 (upd H2 r (.lst [.int l3,.int r3])):=SameBut.upd;have JS:(upd H2 r (.lst [.int l3,.int r3])) r=some (.lst [.int l3,.int r3]):=ah;generalize (upd H2 r (.lst [.int l3,.int r3]))=H3 at hm S3 JS |-;have S4:=av (o:=.lst ([1,1,2,3].map V.int)) hm;have em:(upd H3 m (.lst ([1,1,2,3].map V.int))) m=some (.lst ([1,1,2,3].map V.int)):=ah;have Nw:=S4 _ _ JS;refine ⟨_,rfl,r,l3,r3,4,rfl,Nw,k0,k1,by decide,by decide,λv l4 r4 v0 v1 j0 j1=>?_⟩;have nm:m≠r:=oJ em Nw (by intro z; cases z);obtain ⟨b,hb,GC⟩:=ja (xs:=[1,1,2,3]) v0 v1;refine ⟨m,_,v,_,rfl,rfl,bu.of (by rw [ao nm]; exact em),GC,?_⟩
    have bb:∀ b∈([1,1,2,3]:List Int),0 < b/\b.natAbs < 2 ^ 45:=by decide
    obtain ⟨b0,bB⟩:=bb b hb;refine tW (H:=H) q b0 bB ?_ ⟨l4,r4,ah,j0,j1⟩ (((S2.trans S3).trans (SameBut.of S4)).trans SameBut.upd);show (y - 9).natAbs < 2 ^ 45;omega
end K06
namespace L2
open PySem PySem.Spec PyProof.Rows PySem.W
section
variable {X:Cx}{CX:CXT}{k:Nat}{f:Addr}{fd:FuncData}{ps:List Str}{sp:Sp}{x:Str}{p pos:Pos}{e:Expr}{es:List Expr}{t:TA}{js:List Nat}{ys:List Str}
noncomputable def iM (v:V)(o:Obj):Prop:=∃ u,aC v u/\o.data = .cell (some u)
noncomputable def nK (cs:List Addr)(js:List Nat)(sp:Sp)(t:TA):TE:=λσ H Q=>t σ H λvs H1=>∃ ws:List V,js.map (λj=>σ[j]?)=ws.map (λw=>some (some w)) /\
 ∀ os:List Obj,Paired iM ws os->(∀ c∈cs,H1 c=none)->sp vs (c5 (cs.zip os) H1) (λr H'=>dM (cs.zip os) H'/\Q r (dG (cs.zip os) H')) λ_ _ _=>False
theorem lQ {pins:List (Addr × Obj)}{σ:St}{H:Hp}{s:Shared}(I:Inv X pins σ H s):∀ (ys:List Str)(js:List Nat)(ws:List V),js.map (λj=>X.N[j]?)=ys.map some->js.map (λj=>σ[j]?)=ws.map (λw=>some (some w)) →
 (∀ y∈ys,X.env.kindOf y=some .cell)->(∀ y∈ys,X.fn y=true)->∃ os:List Obj,Paired iM ws os/\∀ q∈(ys.map (fu X)).zip os,H q.1=none/\s.heap.get? q.1=some q.2/\q.1 ∉ df X.stack/\X.s₀.heap.objs.size<=q.1
 | [],js,ws,h1,h2,_,_=>by
   cases js with
   | cons j js=>simp at h1
   | nil =>
     cases ws with
     | cons w ws=>simp at h2
     | nil=>exact ⟨[],.nil,λq hq=>by simp at hq⟩
 | y :: ys,js,ws,h1,h2,hc,hf=>by
   cases js with
   | nil=>simp at h1
   | cons j js =>
     cases ws with
     | nil=>simp at h2
     | cons w ws =>
       rw [List.map_cons,List.map_cons] at h1 h2;have hy:=(List.cons.inj h1).1;have ev:=(List.cons.inj h2).1;obtain ⟨os,r,g⟩:=lQ I ys js ws (List.cons.inj h1).2 (List.cons.inj h2).2 (λz hz=>hc z (List.mem_cons_of_mem _ hz)) λz hz=>hf z (List.mem_cons_of_mem _ hz);have WK:=hc y List.mem_cons_self;obtain ⟨m,hn,hl⟩:=I.loc;obtain ⟨u,rv,l⟩:=hl j y w hy ev (.inr (.inl WK))
       rcases l with ⟨k1,_⟩ | ⟨_,c,ec,o,ho,hd⟩
       ·rw [WK] at k1; cases k1
       ·have MC:fu X y=c:=by unfold fu; rw [ec]; rfl
        have fc:H c=none:=I.freeC y c ec;have cab:=I.ok.cab y c (hf y List.mem_cons_self) ec;refine ⟨o :: os,.cons ⟨u,rv,hd⟩ r,λq hq=>?_⟩;rw [List.map_cons,List.zip_cons_cons] at hq
        rcases List.mem_cons.mp hq with rfl | hq
        ·refine ⟨by rw [MC]; exact fc,by rw [MC]; exact ho,?_,by rw [MC]; exact cab⟩;show fu X y ∉ df X.stack;rw [MC];intro Fq
         rcases List.mem_cons.mp (I.stkSub _ Fq) with z | z
         ·exact I.cne y _ ec z
         ·obtain ⟨_,o2,e2,_⟩:=I.ok.funs.mem z;exact absurd (Nat.lt_of_lt_of_le (Heap.lt_size e2) cab) (Nat.lt_irrefl _)
        ·exact g q hq
theorem dH {cs:List (Addr × Obj)}{a:Addr}{v:Obj}(h:cs.lookup a=some v):(a,v)∈cs:=by
 induction cs with
 | nil=>cases h
 | cons q r ih =>
   obtain ⟨b,o⟩:=q;rw [List.lookup_cons] at h
   by_cases z:a=b
   ·subst z;simp at h;subst h;exact List.mem_cons_self
   ·have zb:(a == b)=false:=by simpa using z
    rw [zb] at h;exact List.mem_cons_of_mem _ (ih h)
theorem kg (F:FnOk X.prog X.w X.K X.mg X.base CX k f fd ps sp)(hr:Room k X.A)(hg:Gl X x)(hm:X.mg x=some (.ref f))(hk:keepIn X.K (.ref f)=true)(hb:aA X.K fd ps [])(hx:∀ (H:Hp)(s:Shared)(e:Value)(s':Shared),CX X.stack H s (λ_ _ _=>False) e s'->False)
 (hy:js.map (λj=>X.N[j]?)=ys.map some)(hc:∀ y∈ys,X.env.kindOf y=some .cell)(hf:∀ y∈ys,X.fn y=true)(ha:PA X (e :: es) t)(Jl:(x == ("__debug__":Str))=false:=by decide)(he:starEach (e :: es) X.env=(false,eval e X.env):: starEach es X.env:=by rfl)(Gz:(backTo pos (starEach es X.env)).any (·.1)=false:=by rfl):
 PE X (.Call (.Name x p) (e :: es) [] pos) (nK (ys.map (fu X)) js sp t):=by
 intro pins s σ H Q I h;refine wpAny_Call_Name_kw (fj I hg hm ?_ Jl);refine callWith_K (h₀:=X.base) I.ok.mod.kin hk (bR (ha pos pins s σ H _ I h) λus s1 ⟨vs,H1,I1,r,ws,ew,q⟩=>⟨I1.kIn,?_⟩) he Gz;obtain ⟨os,ro,g⟩:=lQ I1 ys js ws hy ew hc hf
 have free:∀ c∈ys.map (fu X),H1 c=none:=λc Rj=>by
  obtain ⟨y,SY,rfl⟩:=List.mem_map.mp Rj;have ec:=I1.ok.has y (.inl (hc y SY));obtain ⟨c,ec⟩:=ec
  have MC:fu X y=c:=by unfold fu; rw [ec]; rfl
  rw [MC];exact I1.freeC y c ec
 refine zr (cs:=(ys.map (fu X)).zip os) F hr hb (λH e s' z=>hx H s1 e s' z) I1 (λa v e=>?_) (λa v e Fq=>?_) (λa v e=>?_) r (q os ro free)
 ·have z:=g _ (dH e);exact ⟨z.1,z.2.1⟩
 ·exact (g _ (dH e)).2.2.1 Fq
 ·exact (g _ (dH e)).2.2.2
end
end L2
namespace K06
open PySem L2 PySem.W Nm
noncomputable abbrev mh:Stmt:=aU (aZ 34) 11
theorem Th.same {H H':Hp}{x:V}{T:String}(h:Th H x T)(s:aB H H'):Th H' x T:=by
 cases h with
 | non=>exact .non
 | bl b=>exact .bl b
 | int i=>exact .int i
 | str x=>exact .str x
 | lst e=>exact .lst (s _ _ e)
 | tup e=>exact .tup (s _ _ e)
 | dK e=>exact .dK (s _ _ e)
inductive TX (H:Hp):V->Option (V × V)->Prop where
 | no {x:V}{T:String}:Th H x T->T ≠ "tuple"->TX H x none
 | odd {a:Addr}{xs:List V}:H a=some (.tup xs)->xs.length≠2->TX H (.ref a) none
 | two {a:Addr}{y z:V}{Ty Tz:String}:H a=some (.tup [y,z])->Th H y Ty->Th H z Tz->TX H (.ref a) (some (y,z))
theorem TX.same {H H':Hp}{x:V}{o:Option (V × V)}(h:TX H x o)(s:aB H H'):TX H' x o:=by
 cases h with
 | no th n=>exact .no (th.same s) n
 | odd e n=>exact .odd (s _ _ e) n
 | two e h1 h2=>exact .two (s _ _ e) (h1.same s) (h2.same s)
noncomputable def isN (p:Int):Option (V × V)->Bool
 | some (.int t,.int b)=>if p=0 then decide (1<=b)&&decide (Int.gcd t b=1) else decide (b=1)&&(decide (0<=t)&&decide (t < p))
 | _=>false
theorem Th.isTup {K:Frag}{H:Hp}{x:V}{T:String}(h:Th H x T):kitOne K (.type T) (.type "tuple")=some (decide (T="tuple")):=by cases h <;> rfl
noncomputable def gJ (C:Addr):Sp:=λvs H Q _=>∃ (s dx:Addr)(p:Int)(x:V)(o:Option (V × V)),vs=[.ref s,x]/\H s=some (.ins C dx (eI p))/\FP p/\TX H x o/\Q (.bl (isN p o)) H
variable {P:Program}{w:World}{K:PySem.W.Frag}{mg:Str->Option Value}{base:Heap}
theorem gF:FnScope ["self","thing","top","bottom"] ["self","thing"] (aq mh):=dX (by decide +kernel)
theorem pB {f C fg fw:Addr}{fd Gq HZ:FuncData}{tF:Tok}(F:Fun K "is_number" "Field.is_number" mh f fd)(c:FieldK K mg C)(mF:mg "FRACTIONS"=some (.int 0 tF))(n:Nones mg)(mT:mg "tuple"=none)(mN:mg "len"=none)
 (FG:FnOk P w K mg base (aV P w) 1 fg Gq ["one","other"] spGcd)(bG:L2.aA K Gq ["one","other"] [])(mG:mg "common_divisor"=some (.ref fg))(kG:keepIn K (.ref fg)=true)
 (FW:FnOk P w K mg base (aV P w) 1 fw HZ ["thing"] spWhole)(bW:L2.aA K HZ ["thing"] [])(mW:mg "is_whole"=some (.ref fw))(kW:keepIn K (.ref fw)=true):FnOk P w K mg base (aV P w) 2 f fd ["self","thing"] (gJ C):=by
 refine F.okN gF (λvs H Q E h=>?_) (λFb A outer s H vs Q E hr h=>?_)
 ·obtain ⟨s,dx,p,x,o,rfl,_⟩:=h;rfl
 ·obtain ⟨s,dx,p,x,o,rfl,hs,hp,tx,q⟩:=h
  refine ⟨_,ak (bg (PW.pt (gh (bU (b9 (aF aR (by rfl) n.isi (by rfl) (ai (pv 1) (ai (dh (by rfl) mT (by rfl) (show aC (.ty "tuple") (.type "tuple") from rfl)) af)))))
   (fL (aQ gm (aF ck (by rfl) mN PySem.boot_len (ai (pv 1) af)) aj (aI _))))) (ar (az cU)) aD)
   (ak (iP (pv 1) (cZ rfl (aE (aG (i:=2) gF.nd rfl (Or.inl rfl)) (aE (aG (i:=3) gF.nd rfl (Or.inl rfl)) cj))))
   (ak (bg (PW.pt (gh (bU (b9 (ax FW hr (by rfl) mW kW bW .nil ae (ai (pv 2) af)))) (fL (bU (b9 (ax FW hr (by rfl) mW kW bW .nil ae (ai (pv 3) af))))))) (ar (az cU)) aD)
   (ak (bg (aQ d8 (bK (pv 0) rfl) (cL (by rfl) mF (show aC (.int 0) (.int 0 tF) from ⟨_,rfl⟩)) (aI _))
    (ar (az (cE (bZ AB (pv 3) aj (aI _)) (dC (bZ d8 (ax FG hr (by rfl) mG kG bG .nil ae (ai (pv 2) (ai (pv 3) af))) aj (aI _)))))) aD)
   (ar (az (cE (bZ d8 (pv 3) aj (aI _)) (dC (kf wB jJ aj (pv 2) (bK (pv 0) rfl))))))))),?_⟩
  cases tx with
  | @no x T th ne =>
    refine ⟨_,rfl,x,.ty "tuple",_,_,_,rfl,rfl,th.ty,th.isTup,_,rfl,?_⟩;rw [decide_eq_false ne];exact cb (cb q)
  | @odd a xs ha hl =>
    refine ⟨_,rfl,.ref a,.ty "tuple",_,_,_,rfl,rfl,.of (.tup ha),rfl,_,rfl,bF ?_⟩;refine ⟨_,rfl,a,_,rfl,.inr (a9.of ha),rfl,_,rfl,?_⟩;refine cz (λ_=>q) (λh=>absurd (by simp; omega) h)
  | @two a y z Ty Tz ha hy hz =>
    refine ⟨_,rfl,.ref a,.ty "tuple",_,_,_,rfl,rfl,.of (.tup ha),rfl,_,rfl,bF ?_⟩;refine ⟨_,rfl,a,_,rfl,.inr (a9.of ha),rfl,_,rfl,?_⟩;refine cz (λh=>absurd h (by simp)) (λ_=>?_);refine ⟨_,rfl,a,_,rfl,a9.of ha,rfl,_,_,rfl,_,_,rfl,rfl,?_⟩;refine ⟨_,rfl,y,Ty,rfl,hy,_,rfl,?_⟩
    cases e1:dt y with
    | false =>
      have z1:isN p (some (y,z))=false:=by cases y <;> first | rfl | cases e1
      rw [z1] at q;exact cb (cb q)
    | true =>
      refine bF ⟨_,rfl,z,Tz,rfl,hz,_,rfl,?_⟩
      cases e2:dt z with
      | false =>
        have z1:isN p (some (y,z))=false:=by cases y <;> cases z <;> first | rfl | cases e2
        rw [z1] at q;exact cb q
      | true =>
        have z1:∃ t,y = .int t:=by cases y <;> first | exact ⟨_,rfl⟩ | cases e1
        have z2:∃ b,z = .int b:=by cases z <;> first | exact ⟨_,rfl⟩ | cases e2
        obtain ⟨t,rfl⟩:=z1;obtain ⟨b,rfl⟩:=z2;refine bF ?_;refine ⟨_,rfl,s,C,dx,_,_,rfl,hs,c.cl,c.nP,rfl,rfl,_,rfl,?_⟩;refine cz (λh=>?_) (λh=>?_)
        ·have FO:p=0:=by simpa using h
         have z1:isN p (some (.int t,.int b))=(decide (1<=b)&&decide (Int.gcd t b=1)):=by simp [isN,FO]
         rw [z1] at q;refine ⟨_,rfl,_,_,rfl,rfl,_,rfl,?_⟩;refine cz (λh1=>?_) (λh1=>?_)
         ·refine ⟨_,rfl,_,rfl,t,b,rfl,rfl,?_⟩
          have e3:decide (V.int (cS t b)=V.int 1)=decide (Int.gcd t b=1):=by
           unfold cS
           by_cases g:Int.gcd t b=1
           ·simp [g]
           ·have:¬ ((Int.gcd t b:Nat):Int)=1:=by omega
            simp [g,this]
          have GD:decide (1<=b)=true:=h1;rw [GD,Bool.true_and,<-e3] at q;exact q
         ·have GD:decide (1<=b)=false:=by simpa using h1
          rw [GD,Bool.false_and] at q;exact q
        ·have FO:p≠0:=by simpa using h
         have z1:isN p (some (.int t,.int b))=(decide (b=1)&&(decide (0<=t)&&decide (t < p))):=by simp [isN,FO]
         rw [z1] at q;refine ⟨_,rfl,rfl,_,rfl,?_⟩;refine cz (λh1=>?_) (λh1=>?_)
         ·have GD:decide (b=1)=true:=by simpa using h1
          rw [GD,Bool.true_and] at q;refine ⟨_,rfl,_,_,rfl,rfl,_,rfl,?_⟩;refine cz (λh2=>?_) (λh2=>?_)
          ·refine ⟨_,rfl,s,C,dx,_,_,rfl,hs,c.cl,c.nP,rfl,_,_,rfl,rfl,?_⟩;have IW:decide (0<=t)=true:=h2;rw [IW,Bool.true_and] at q;exact q
          ·have IW:decide (0<=t)=false:=by simpa using h2
           rw [IW,Bool.false_and] at q;exact q
         ·have GD:decide (b=1)=false:=by simpa using h1
          rw [GD,Bool.false_and] at q;exact q
end K06
namespace L2
open PySem PySem.Spec PyProof.Rows PySem.W
noncomputable def DK:V->Bool->Prop
 | .bl b,c=>c=b
 | .int i,c=>c=(i != 0)
 | _,_=>False
theorem bH {α β:Type}{R:α->β->Prop}:∀ {l:List α}{m:List β}{i:Nat}{a:α},Paired R l m->l[i]?=some a->∃ b,m[i]?=some b/\R a b
 | [],_,i,a,h,e=>by simp at e
 | x :: l,_,i,a,h,e=>by
   cases h with
   | cons h1 h2 =>
     cases i with
     | zero=>simp at e; subst e; exact ⟨_,rfl,h1⟩
     | succ i=>simpa using bH h2 (by simpa using e)
theorem j5 {α β:Type}{R:α->β->Prop}:∀ {l:List α}{m:List β}{i:Nat}{b:β},Paired R l m->m[i]?=some b->∃ a,l[i]?=some a/\R a b
 | [],m,i,b,h,e=>by cases h; simp at e
 | x :: l,_,i,b,h,e=>by
   cases h with
   | cons h1 h2 =>
     cases i with
     | zero=>simp at e; subst e; exact ⟨_,rfl,h1⟩
     | succ i=>simpa using j5 h2 (by simpa using e)
section
variable {X:Cx}
theorem BS {A:Around}{Q:Bool->Shared->Prop}{E:Value->Shared->Prop}{s:Shared}{y:V}{c:Bool}{u:Value}(t:DK y c)(r:aC y u)(h:Q c s):wpAny (model X.prog X.w) A (truthy u) Q E s:=by
 cases y with
 | bl b =>
   cases (show u=Value.bool b from r)
   cases (show c=b from t)
   exact wpAny_truthy_bool h
 | int i =>
   obtain ⟨k,rfl⟩:=(show ∃ k,u=Value.int i k from r)
   cases (show c=(i != 0) from t)
   exact PyProof.Rows.truthy_int h
 | _=>exact t.elim
theorem oH (hc:X.calm=true):eT X (.builtin "all") (λxs H Q=>∃ l ys bs,xs=[.ref l]/\bu X.K H l ys/\Paired DK ys bs/\Q (.bl (bs.all id)) H):=by
 intro pins s σ H xs us Q I r h;obtain ⟨l,ys,bs,rfl,hl,hp,q⟩:=h;obtain ⟨u,rfl,ru⟩:=gf r
 cases (show u=Value.ref l from ru)
 obtain ⟨its,rv,pl,hz⟩:=I.list hl
 have Fd:l < s.heap.objs.size:=by obtain ⟨o,n,e,_⟩:=pl; exact Heap.lt_size e
 refine call_all_walk (wpAny_pyIter_list pl.isList ?_)
 refine ⟨s.heap.objs.size,[s.heap.objs.size,l],[s.heap.objs.size],its.toArray.size,_,_,λi=>(bs[i]?).getD true,rfl,Walks.list (A:=X.A.in1) (I.ok.hd hc) _ l (Nat.ne_of_lt Fd) its.toArray,
  ⟨⟨_,Heap.get?_push_size _ rfl,rfl,rfl⟩,pl.isList.push _⟩,λi v s' Q' E' hP hQ=>?_,λh' tk hk=>?_⟩
 ·have e:its[i]?=some v:=by simpa using hP
  obtain ⟨y,ey,ry⟩:=j5 rv e;obtain ⟨b,eb,tb⟩:=bH hp ey;simp only [eb,Option.getD_some] at hQ;exact BS tb ry hQ
 ·have n:its.toArray.size=bs.length:=by rw [List.size_toArray,<-rv.length,hp.length]
  have e:((List.range its.toArray.size).all λi=>(bs[i]?).getD true)=bs.all id:=by rw [n]; exact LSm.range_all bs
  rw [e];exact ⟨.bl (bs.all id),H,I.kept (t':=tk) (LSm.kept_iter hk),rfl,q⟩
end
section
variable {X:Cx}{pins:List (Addr × Obj)}{σ:St}{H:Hp}{s:Shared}{h':Heap}
theorem Inv.hnone (I:Inv X pins σ H s){a:Addr}(hp:s.heap.get? a=none):H a=none:=by
 cases q:H a with
 | none=>rfl
 | some u =>
   obtain ⟨ob,e1⟩:=(I.hok a u q).there;rw [hp] at e1
   cases e1
theorem Inv.newObj {a:Addr}{o:HO}{t':Nat}(I:Inv X pins σ H s)(k:∀ b u,s.heap.get? b=some u->h'.get? b=some u)(hp:s.heap.get? a=none)(new:ba X.prog X.w (upd H a o) h' a o):
 Inv X pins σ (upd H a o) { s with heap:=h',toks:=t' }:=by
 have hn:=I.hnone hp
 have nb:∀ b u,s.heap.get? b=some u->b≠a:=λb u e z=>by rw [z,hp] at e; cases e
 exact I.un ⟨λb u q _ _ _=>k b u q,λb u q _ _ _=>⟨u.slots,k b u q⟩,λb u q n _=>by rw [ao (nb b u q)]; exact n,λb u q _=>⟨u,k b u q⟩,
  λb xs q=>by rw [ao (au q hn)]; exact q,λb u xs q=>by rw [ao (au q hn)]; exact q,λb ps q=>⟨#[],by rw [ao (au q hn),q]; simp⟩⟩ (da (I.hok.kept k) hn new)
end
end L2
namespace Jy
open PySem PySem.W PyProof.Rows
section
variable {prog:Program}{w:World}{A:Around}{E:Value->Shared->Prop}{s:Shared}{d it:Addr}{es:Array DictEntry}{ep:Nat}{o:Obj}
structure Raw (h:Heap)(d:Addr)(es:Array DictEntry)(ep:Nat):Prop where
 ex:∃ o,h.get? d=some o/\o.ExactDict/\o.data = .dict es ep
theorem Raw.ty (r:Raw s.heap d es ep):s.TypeIs (.ref d) "dict":=let ⟨o,h,x,_⟩:=r.ex; ⟨o,h,x.1⟩
theorem Raw.keep {h h':Heap}(r:Raw h d es ep)(k:∀ o,h.get? d=some o->h'.get? d=some o):Raw h' d es ep:=let ⟨o,h1,x⟩:=r.ex; ⟨o,k o h1,x⟩
theorem qg {Q:Value->Shared->Prop}(r:Raw s.heap d es ep)(hd:(d == sysModules)=false)(h:Q (.ref s.heap.objs.size) { s with heap:=s.heap.push { cls:=.type "dict_items",data:=.fields #[.ref d] } }):
 wpAny (model prog w) A (call (.builtin "dict.items") [.ref d]) Q E s:=by
 refine wpAny_call_entry F.slot_dict_items r.ty F.entry_dict_items ?_ (F.args_dict_items_1 _);unfold Builtin.«dict.items» Builtin.Dict.noArgs; refine wpAny_bind (wpAny_bind (wpAny_notOrdered_dict r.ty (wpAny_pure ?_)));show wpAny _ _ (Builtin.Dict.showsAll d >>= _) _ _ s; unfold Builtin.Dict.showsAll; rw [if_neg (by rw [hd]; exact Bool.false_ne_true)];exact wpAny_bind (wpAny_pure (wpAny_bind (wpAny_newObj_type (wpAny_pure ⟨_,rfl,h⟩))))
theorem qd {v:Addr}{Q:Value->Shared->Prop}(hv:s.heap.IsItemsView v d)(r:Raw s.heap d es ep)
 (hQ:Q (.ref s.heap.objs.size) { s with heap:=s.heap.push { cls:=.type "dict_itemiterator",data:=.fields #[.none,.bool false,.ref d,.int 0 0,.int es.size 0,.int ep 0,.none,.none] } }):wpAny (model prog w) A (pyIter (.ref v)) Q E s:=by
 obtain ⟨ov,g1,g2,g3⟩:=id hv;obtain ⟨o,h1,h2,h3⟩:=r.ex;refine wpAny_pyIter_slot hv.typeIs F.slot_dict_items_iter (wpAny_call_entry F.slot_dict_items_iter hv.typeIs F.entry_dict_items_iter ?_ (F.args_dict_items_iter_1 _));unfold Builtin.«dict_items.__iter__» Builtin.Dict_items.dictOf; refine wpAny_bind (wpAny_pure (wpAny_bind (wpAny_bind (wpAny_field g1 g3 (x:=.ref d) rfl (wpAny_pure (wpAny_bind ?_))))));unfold Builtin.Dict_items.newIterator; refine wpAny_bind (wpAny_dictEntries h1 h3 (wpAny_bind (wpAny_dictEpoch h1 h3 ?_)));simp only [show Builtin.Dict_items.ownsTuple "dict_itemiterator"=true from by decide,if_true];refine wpAny_newObj_type (wpAny_pure ⟨_,rfl,"dict_itemiterator",_,⟨_,Heap.get?_push_size _ rfl,rfl⟩,F.slot_dict_itemiterator_next.lookup,?_⟩) (by simp only [sizeOk,Builtin.Dict_items.ownedTupleFields,List.size_toArray,List.length_append,List.length_cons,List.length_nil,sizeLine_eq]; omega);simpa [rawInt,Builtin.Dict_items.ownedTupleFields] using hQ
theorem rf {i:Nat}{ok ov:Value}{Q:Option Value->Shared->Prop}(hit:IsItemIter s.heap it d i es.size ep ok ov)(r:Raw s.heap d es ep)(hi:i < es.size)
 (hQ:∀ h',IsItemIterOut h' it d (i + 1) es.size ep es[i].key es[i].val s.heap.objs.size->h'.get? s.heap.objs.size=some { cls:=.type "tuple",data:=.seq #[es[i].key,es[i].val] }->h'.objs.size=s.heap.objs.size + 1 →
  (∀ b o,b≠it->s.heap.get? b=some o->h'.get? b=some o)->Q (some (.ref s.heap.objs.size)) { s with heap:=h' }):wpAny (model prog w) A (pyNext (.ref it)) Q E s:=by
 obtain ⟨hp,g,dr,tk,os⟩:=s;obtain ⟨o,h1,h2,h3⟩:=r.ex;have hT:Shared.TypeIs ⟨hp,g,dr,tk,os⟩ (.ref it) "dict_itemiterator":=⟨_,hit,rfl⟩;unfold pyNext; refine wpAny_bind (wpAny_attempt (wpAny_callSpecial?_slot (name:=Str.ofString "__next__") hT F.slot_dict_itemiterator_next (wpAny_call_entry F.slot_dict_itemiterator_next hT F.entry_dict_itemiterator_next ?_ (F.args_dict_itemiterator_next_1 _))));refine wpAny_bind (wpAny_pure (wpAny_bind (wpAny_bind ?_)))
 first | refine wpAny_bind (wpAny_typeNameOfWhole_itemiter hT (wpAny_pure (wpAny_bind (wpAny_fieldsOf hit rfl ?_)))) | refine wpAny_bind (wpAny_typeNameOf_itemiter hT (wpAny_pure (wpAny_bind (wpAny_fieldsOf hit rfl ?_))))
 simp only [show Builtin.Dict_items.ownsTuple "dict_itemiterator"=true from by decide,if_true];show wpAny _ _ (if (Value.ref d == Value.none)=true then _ else _) _ _ _; rw [if_neg (show ¬ ((Value.ref d == Value.none)=true) from Bool.false_ne_true)];refine wpAny_bind (wpAny_pure (wpAny_bind (wpAny_dictEntries h1 h3 ?_))); rw [if_neg (by simp)];refine wpAny_bind (wpAny_pure (wpAny_bind (wpAny_dictEpoch h1 h3 ?_))); rw [if_neg (by simp)]; refine wpAny_pure ?_;simp only [show ¬ ((i:Int) < 0) from by omega,if_false,Int.toNat_natCast,Array.getElem?_eq_getElem hi];refine wpAny_bind ?_
 first | refine wpAny_bind (wpAny_typeNameOfWhole_itemiter hT (wpAny_pure (wpAny_bind (wpAny_isOneOf_itemiter hT ?_)))) | refine wpAny_bind (wpAny_typeNameOf_itemiter hT (wpAny_pure (wpAny_bind (wpAny_isOneOf_itemiter hT ?_))))
 show wpAny _ _ (setField (.ref it) 3 (rawInt ((i:Int) + 1)) >>= _) _ _ ⟨hp,g,dr,tk,os⟩; refine wpAny_bind (wpAny_setField_rec hit (by simp) λk1 e1 (b1:Heap.SameBut it hp k1)=>?_)
 have q1:IsItemIter k1 it d (i + 1) es.size ep ok ov:=by
  unfold IsItemIter; rw [show ((i + 1:Nat):Int)=(i:Int) + 1 by omega]; simpa [rawInt] using e1
 have t1:Shared.TypeIs ⟨k1,g,dr,tk,os⟩ (.ref it) "dict_itemiterator":=⟨_,q1,rfl⟩;refine wpAny_bind (wpAny_holding (wpAny_bind (wpAny_isOneOf_itemiter t1 (wpAny_bind (wpAny_isOneOf_itemiter t1 ?_)))));show wpAny _ _ (Builtin.Dict_items.pairFromOwner (.ref it) 6 es[i].key es[i].val) _ _ ⟨k1,g,dr,tk,os⟩; unfold Builtin.Dict_items.pairFromOwner; refine wpAny_bind (wpAny_newTuple ?_);have q2:IsItemIter (k1.push { cls:=.type "tuple",data:=.seq #[es[i].key,es[i].val] }) it d (i + 1) es.size ep ok ov:=Heap.get?_push_of_some _ q1;have z1:k1.objs.size=hp.objs.size:=b1.1;have ne:hp.objs.size≠it:=Nat.ne_of_gt (Heap.lt_size hit)
 have w2:(k1.push { cls:=.type "tuple",data:=.seq #[es[i].key,es[i].val] }).get? hp.objs.size=some { cls:=.type "tuple",data:=.seq #[es[i].key,es[i].val] }:=by rw [<-z1]; exact Heap.get?_push_size _ rfl
 have z2:(k1.push { cls:=.type "tuple",data:=.seq #[es[i].key,es[i].val] }).objs.size=hp.objs.size + 1:=by rw [Heap.size_push,z1]
 have p2:∀ b o,b≠it->hp.get? b=some o->(k1.push { cls:=.type "tuple",data:=.seq #[es[i].key,es[i].val] }).get? b=some o:=λb o hb e=>Heap.get?_push_of_some _ (b1.extBut b o hb e);show wpAny _ _ (Builtin.Dict_items.ownedTupleIsFree (.ref it) >>= _) _ _ ⟨k1.push { cls:=.type "tuple",data:=.seq #[es[i].key,es[i].val] },g,dr,tk,os⟩; rw [z1];generalize k1.push { cls:=.type "tuple",data:=.seq #[es[i].key,es[i].val] }=k2 at q2 w2 z2 p2 |-;unfold Builtin.Dict_items.ownedTupleIsFree; refine wpAny_bind (wpAny_bind (wpAny_field q2 rfl (x:=.none) rfl (wpAny_pure ?_))); simp only [if_true];refine wpAny_bind (wpAny_field q2 rfl (x:=ok) rfl (wpAny_bind (wpAny_field q2 rfl (x:=ov) rfl (wpAny_bind (wpAny_setField_rec q2 (by simp) λk3 e3 (b3:Heap.SameBut it k2 k3)=>?_)))));have q3:IsItemIter k3 it d (i + 1) es.size ep es[i].key ov:=e3;refine wpAny_bind (wpAny_setField_rec q3 (by simp) λk4 e4 (b4:Heap.SameBut it k3 k4)=>?_);have q4:IsItemIter k4 it d (i + 1) es.size ep es[i].key es[i].val:=e4;refine wpAny_bind (wpAny_setField_rec q4 (by simp) λk5 e5 (b5:Heap.SameBut it k4 k5)=>?_);have q5:IsItemIterOut k5 it d (i + 1) es.size ep es[i].key es[i].val hp.objs.size:=e5;refine wpAny_bind (wpAny_setField_rec q5 (by simp) λk6 e6 (b6:Heap.SameBut it k5 k6)=>?_);have q6:IsItemIterOut k6 it d (i + 1) es.size ep es[i].key es[i].val hp.objs.size:=e6;have go:∀ b o,b≠it->k2.get? b=some o->k6.get? b=some o:=λb o hb e=>b6.extBut b o hb (b5.extBut b o hb (b4.extBut b o hb (b3.extBut b o hb e)));exact wpAny_bind (wpAny_letGo (wpAny_pure (wpAny_pure ⟨_,rfl,wpAny_pure (hQ k6 q6 (go _ _ ne w2) (by show k6.objs.size=hp.objs.size + 1; rw [b6.1,b5.1,b4.1,b3.1,z2]) λb o hb e=>go b o hb (p2 b o hb e))⟩)))
theorem uB {i:Nat}{ok ov:Value}{Q:Option Value->Shared->Prop}(hh:A.handled=none)(hit:IsItemIter s.heap it d i es.size ep ok ov)(r:Raw s.heap d es ep)(hi:es.size<=i)
 (hQ:∀ h',Heap.ExtBut it s.heap h'->Q none { s with heap:=h' }):wpAny (model prog w) A (pyNext (.ref it)) Q E s:=by
 obtain ⟨o,h1,h2,h3⟩:=r.ex;have hT:s.TypeIs (.ref it) "dict_itemiterator":=⟨_,hit,rfl⟩;unfold pyNext; refine wpAny_bind (wpAny_attempt (wpAny_callSpecial?_slot (name:=Str.ofString "__next__") hT F.slot_dict_itemiterator_next (wpAny_call_entry F.slot_dict_itemiterator_next hT F.entry_dict_itemiterator_next ?_ (F.args_dict_itemiterator_next_1 _))));refine wpAny_bind (wpAny_pure (wpAny_bind (wpAny_bind ?_)))
 first | refine wpAny_bind (wpAny_typeNameOfWhole_itemiter hT (wpAny_pure (wpAny_bind (wpAny_fieldsOf hit rfl ?_)))) | refine wpAny_bind (wpAny_typeNameOf_itemiter hT (wpAny_pure (wpAny_bind (wpAny_fieldsOf hit rfl ?_))))
 simp only [show Builtin.Dict_items.ownsTuple "dict_itemiterator"=true from by decide,if_true];show wpAny _ _ (if (Value.ref d == Value.none)=true then _ else _) _ _ _; rw [if_neg (show ¬ ((Value.ref d == Value.none)=true) from Bool.false_ne_true)];refine wpAny_bind (wpAny_pure (wpAny_bind (wpAny_dictEntries h1 h3 ?_))); rw [if_neg (by simp)];refine wpAny_bind (wpAny_pure (wpAny_bind (wpAny_dictEpoch h1 h3 ?_))); rw [if_neg (by simp)]; refine wpAny_pure ?_;simp only [show ¬ ((i:Int) < 0) from by omega,if_false,Int.toNat_natCast,Array.getElem?_eq_none hi];refine wpAny_bind ?_
 first | refine wpAny_bind (wpAny_typeNameOfWhole_itemiter hT (wpAny_pure ?_)) | refine wpAny_bind (wpAny_typeNameOf_itemiter hT (wpAny_pure ?_))
 show wpAny _ _ (setField (.ref it) 2 .none >>= _) _ _ s; refine wpAny_bind (wpAny_setField hit rfl (by simp) ?_);show wpAny _ _ (newExc (.type "StopIteration") [] >>= _) _ _ _; refine wpAny_bind ?_; simp only [newExc,newTuple];refine wpAny_bind (wpAny_newObj_type (wpAny_bind (m:=firstArgMember _ _) (wpAny_of_eq (a:=Value.none) (by first | rfl | (simp only [firstArgMember]; rfl)) (wpAny_newObj_type ?_ (by size_fits)))) (by size_fits));simp only [raiseNew]; refine wpAny_bind (wpAny_handled ?_); rw [show A.in1.handled=none from hh];refine wpAny_bind (wpAny_pure (wpAny_throw ?_));refine wpAny_bind (wpAny_isInstance (T:="StopIteration") (b:=true) ⟨_,Heap.get?_push_size _ rfl,rfl⟩ isSubtype_stop ?_); exact wpAny_pure (hQ _ (((Heap.SameBut.update ..).extBut.push _).push _))
theorem uO {Q:Value->Shared->Prop}(r:Raw s.heap d es ep)(hd:(d == sysModules)=false)
 (hQ:Q (.ref s.heap.objs.size) { s with heap:=s.heap.push { cls:=.type "dict_keyiterator",data:=.fields #[.ref d,.int 0 0,.int es.size 0,.int ep 0] } }):wpAny (model prog w) A (pyIter (.ref d)) Q E s:=by
 obtain ⟨o,h1,h2,h3⟩:=r.ex;refine wpAny_pyIter_slot r.ty F.slot_dict_iter (wpAny_call_entry F.slot_dict_iter r.ty F.entry_dict_iter ?_ (F.args_dict_iter_1 _));unfold Builtin.«dict.__iter__» Builtin.Dict.dictSlotNone; refine wpAny_bind (wpAny_bind (wpAny_notOrdered_dict r.ty (?_:wpAny _ _ (pure (Value.ref d)) _ _ s)));refine wpAny_pure ?_; show wpAny _ _ (Builtin.Dict.showsAll d >>= _) _ _ s; unfold Builtin.Dict.showsAll; rw [if_neg (by rw [hd]; exact Bool.false_ne_true)];refine wpAny_bind (wpAny_pure (wpAny_bind (wpAny_dictEntries h1 h3 (wpAny_bind (wpAny_dictEpoch h1 h3 (wpAny_bind (wpAny_newObj_type (wpAny_pure ⟨_,rfl,"dict_keyiterator",_,⟨_,Heap.get?_push_size _ rfl,rfl⟩,F.slot_dict_keyiterator_next.lookup,?_⟩))))))));simpa [rawInt] using hQ
theorem uJ {i:Nat}{Q:Option Value->Shared->Prop}(hit:s.heap.IsKeyIter it d i es.size ep)(r:Raw s.heap d es ep)(hi:i < es.size)
 (hQ:∀ h',h'.IsKeyIter it d (i + 1) es.size ep->Heap.SameBut it s.heap h'->Q (some es[i].key) { s with heap:=h' }):wpAny (model prog w) A (pyNext (.ref it)) Q E s:=by
 obtain ⟨oi,g1,g2,g3⟩:=id hit;obtain ⟨o,h1,h2,h3⟩:=r.ex;have hT:=hit.typeIs;unfold pyNext; refine wpAny_bind (wpAny_attempt (wpAny_callSpecial?_slot (name:=Str.ofString "__next__") hT F.slot_dict_keyiterator_next (wpAny_call_entry F.slot_dict_keyiterator_next hT F.entry_dict_keyiterator_next ?_ (F.args_dict_keyiterator_next_1 _))));refine wpAny_bind (wpAny_pure (wpAny_bind (wpAny_bind ?_)))
 first | refine wpAny_bind (wpAny_typeNameOfWhole_keyiter hT (wpAny_pure (wpAny_bind (wpAny_fieldsOf g1 g3 ?_)))) | refine wpAny_bind (wpAny_typeNameOf_keyiter hT (wpAny_pure (wpAny_bind (wpAny_fieldsOf g1 g3 ?_))))
 simp only [show Builtin.Dict_items.ownsTuple "dict_keyiterator"=false from by decide,Bool.false_eq_true,if_false];show wpAny _ _ (if (Value.ref d == Value.none)=true then _ else _) _ _ _; rw [if_neg (show ¬ ((Value.ref d == Value.none)=true) from Bool.false_ne_true)];refine wpAny_bind (wpAny_pure (wpAny_bind (wpAny_dictEntries h1 h3 ?_))); rw [if_neg (by simp)];refine wpAny_bind (wpAny_pure (wpAny_bind (wpAny_dictEpoch h1 h3 ?_))); rw [if_neg (by simp)]; refine wpAny_pure ?_;simp only [show ¬ ((i:Int) < 0) from by omega,if_false,Int.toNat_natCast,Array.getElem?_eq_getElem hi];refine wpAny_bind ?_
 first | refine wpAny_bind (wpAny_typeNameOfWhole_keyiter hT (wpAny_pure (wpAny_bind (wpAny_isOneOf_keyiter hT ?_)))) | refine wpAny_bind (wpAny_typeNameOf_keyiter hT (wpAny_pure (wpAny_bind (wpAny_isOneOf_keyiter hT ?_))))
 show wpAny _ _ (setField (.ref it) 1 (rawInt ((i:Int) + 1)) >>= _) _ _ s; refine wpAny_bind (wpAny_setField g1 g3 (by simp) ?_);have q1:(s.heap.update it (Obj.mapFields (·.setIfInBounds 1 (rawInt ((i:Int) + 1))))).IsKeyIter it d (i + 1) es.size ep:=⟨_,Heap.get?_update_self _ g1 (Obj.isFreed_of_fields (Obj.data_mapFields g3 _)),(Obj.cls_mapFields ..).trans g2,by rw [Obj.data_mapFields g3]; simp [rawInt]⟩;refine wpAny_bind (wpAny_holding (wpAny_bind (wpAny_isOneOf_keyiter (s:={ s with heap:=s.heap.update it (Obj.mapFields (·.setIfInBounds 1 (rawInt ((i:Int) + 1)))) }) q1.typeIs (?_:wpAny _ _ (pure es[i].key) _ _ _))));exact wpAny_pure (wpAny_pure ⟨_,rfl,wpAny_pure (hQ _ q1 (Heap.SameBut.update ..))⟩)
theorem xQ {i:Nat}{Q:Option Value->Shared->Prop}(hh:A.handled=none)(hit:s.heap.IsKeyIter it d i es.size ep)(r:Raw s.heap d es ep)(hi:es.size<=i)
 (hQ:∀ h',Heap.ExtBut it s.heap h'->Q none { s with heap:=h' }):wpAny (model prog w) A (pyNext (.ref it)) Q E s:=by
 obtain ⟨oi,g1,g2,g3⟩:=id hit;obtain ⟨o,h1,h2,h3⟩:=r.ex;have hT:=hit.typeIs;unfold pyNext; refine wpAny_bind (wpAny_attempt (wpAny_callSpecial?_slot (name:=Str.ofString "__next__") hT F.slot_dict_keyiterator_next (wpAny_call_entry F.slot_dict_keyiterator_next hT F.entry_dict_keyiterator_next ?_ (F.args_dict_keyiterator_next_1 _))));refine wpAny_bind (wpAny_pure (wpAny_bind (wpAny_bind ?_)))
 first | refine wpAny_bind (wpAny_typeNameOfWhole_keyiter hT (wpAny_pure (wpAny_bind (wpAny_fieldsOf g1 g3 ?_)))) | refine wpAny_bind (wpAny_typeNameOf_keyiter hT (wpAny_pure (wpAny_bind (wpAny_fieldsOf g1 g3 ?_))))
 simp only [show Builtin.Dict_items.ownsTuple "dict_keyiterator"=false from by decide,Bool.false_eq_true,if_false];show wpAny _ _ (if (Value.ref d == Value.none)=true then _ else _) _ _ _; rw [if_neg (show ¬ ((Value.ref d == Value.none)=true) from Bool.false_ne_true)];refine wpAny_bind (wpAny_pure (wpAny_bind (wpAny_dictEntries h1 h3 ?_))); rw [if_neg (by simp)];refine wpAny_bind (wpAny_pure (wpAny_bind (wpAny_dictEpoch h1 h3 ?_))); rw [if_neg (by simp)]; refine wpAny_pure ?_;simp only [show ¬ ((i:Int) < 0) from by omega,if_false,Int.toNat_natCast,Array.getElem?_eq_none hi];refine wpAny_bind ?_
 first | refine wpAny_bind (wpAny_typeNameOfWhole_keyiter hT (wpAny_pure ?_)) | refine wpAny_bind (wpAny_typeNameOf_keyiter hT (wpAny_pure ?_))
 show wpAny _ _ (setField (.ref it) 0 .none >>= _) _ _ s; refine wpAny_bind (wpAny_setField g1 g3 (by simp) ?_);show wpAny _ _ (newExc (.type "StopIteration") [] >>= _) _ _ _; refine wpAny_bind ?_; simp only [newExc,newTuple];refine wpAny_bind (wpAny_newObj_type (wpAny_bind (m:=firstArgMember _ _) (wpAny_of_eq (a:=Value.none) (by first | rfl | (simp only [firstArgMember]; rfl)) (wpAny_newObj_type ?_ (by size_fits)))) (by size_fits));simp only [raiseNew]; refine wpAny_bind (wpAny_handled ?_); rw [show A.in1.handled=none from hh];refine wpAny_bind (wpAny_pure (wpAny_throw ?_));refine wpAny_bind (wpAny_isInstance (T:="StopIteration") (b:=true) ⟨_,Heap.get?_push_size _ rfl,rfl⟩ isSubtype_stop ?_); exact wpAny_pure (hQ _ (((Heap.SameBut.update ..).extBut.push _).push _))
end
end Jy
namespace L2
open PySem PySem.Spec PyProof.Rows PySem.W
noncomputable abbrev nV (o:Obj)(E9:List (List Key × V)):HO:=.frz o (.dT E9)
noncomputable def D8 (d:Addr)(o:Obj)(E9:List (List Key × V)):It :=
 ⟨λi H=>i < E9.length/\H d=some (nV o E9),λi H x H'=>∃ p b k v,E9[i]?=some (k,v)/\H p=none/\H b=some (.tup (k.map kV))/\x = .ref p/\H'=upd H p (.tup [.ref b,v]),λi H=>E9.length<=i/\H d=some (nV o E9)⟩
noncomputable def Ew (d:Addr)(o:Obj)(E9:List (List Key × V)):It :=
 ⟨λi H=>i < E9.length/\H d=some (nV o E9),λi H x H'=>∃ b k v,E9[i]?=some (k,v)/\H b=some (.tup (k.map kV))/\x = .ref b/\H'=H,λi H=>E9.length<=i/\H d=some (nV o E9)⟩
theorem jW {α β:Type}{R:α->β->Prop}:∀ {l:List α}{m:List β}{i:Nat}{a:α},Paired R l m->l[i]?=some a->∃ b,m[i]?=some b/\R a b
 | _,_,_,_,.nil,e=>by simp at e
 | _,_,0,_,.cons r _,e=>by simp at e; subst e; exact ⟨_,rfl,r⟩
 | _,_,i + 1,a,.cons _ t,e=>by
   obtain ⟨b,h1,h2⟩:=jW (i:=i) (a:=a) t (by simpa using e);exact ⟨b,by simpa using h1,h2⟩
section
variable {X:Cx}{pins:List (Addr × Obj)}{σ:St}{H:Hp}{s:Shared}{d:Addr}{o:Obj}{E9:List (List Key × V)}
theorem iR (I:Inv X pins σ H s)(e:H d=some (nV o E9)):∃ es ep,o.data = .dict es ep/\Jy.Raw s.heap d es ep/\es.size=E9.length/\(d == sysModules)=false /\
 ∀ (i:Nat)(hi:i < es.size) k v,E9[i]?=some (k,v)->∃ b,es[i].key = .ref b/\H b=some (.tup (k.map kV))/\aC v es[i].val:=by
 obtain ⟨h0,z,y,xs,r,o',es,ep,h1,h2,h3,h4,h5⟩:=(show ba X.prog X.w H s.heap d (nV o E9) from I.hok d _ e);rw [h0] at h1
 cases h1
 have hl:es.size=E9.length:=by
  rw [<-Array.length_toList,h4,List.length_map];exact (Paired.length r).symm
 refine ⟨es,ep,h3,⟨_,h0,h2,h3⟩,hl,y,λi hi k v hk=>?_⟩;obtain ⟨q,hq,e1,e2,e3⟩:=jW r hk
 have z1:es.toList[i]?=some (entryOfKey (tupleKind (bQ X.prog X.w)) q):=by rw [h4,List.getElem?_map,hq]; rfl
 have z2:es[i]=entryOfKey (tupleKind (bQ X.prog X.w)) q:=by
  have z3:es.toList[i]?=some es[i]:=by simp [hi]
  rw [z3] at z1;exact Option.some.inj z1
 rw [z2];exact ⟨q.2.1,rfl,e2,e3⟩
theorem Inv.freeze (I:Inv X pins σ H s)(e:H d=some (.dT E9)):∃ o,s.heap.get? d=some o/\Inv X pins σ (upd H d (nV o E9)) s:=by
 obtain ⟨z,y,xs,r,o,es,ep,h1,h2⟩:=(show ba X.prog X.w H s.heap d (.dT E9) from I.hok d _ e);refine ⟨o,h1,I.write (t':=s.toks) (h':=s.heap) (x:=d) (e:=d) (o:=nV o E9) (by rw [e]; exact True.intro) (.inl rfl) (λ_ _ _ q=>q) ⟨o,h1⟩ ⟨h1,z,y,xs,?_,o,es,ep,h1,h2⟩⟩;exact Paired.mapP r λp q w=>⟨w.1,by rw [ao (oJ w.2.1 e (by intro z; cases z))]; exact w.2.1,w.2.2⟩
end
theorem qh {P:Program}{w:World}{K:Frag}{elts:List Expr}{x1:Nat}{tp:Pos}(d it:Addr)(o:Obj)(E9:List (List Key × V))(es:Array DictEntry)(ep:Nat)(ho:o.data = .dict es ep):Turn P w K (.Tuple elts x1 tp) (D8 d o E9) [it] it (λi h=>∃ ok ov,IsItemIter h it d i es.size ep ok ov) where
 mem:=by simp
 obj:=λi h st b hb=>by
  have e:b=it:=by simpa using hb
  subst e;obtain ⟨ok,ov,e⟩:=st;exact ⟨_,e,λv z=>by cases z⟩
 keep:=λi h h' st k=>let ⟨ok,ov,e⟩:=st; ⟨ok,ov,k it (by simp) _ e⟩
 item:=by
  intro X hP hw hK hc i pins s σ H E I hf st hg;subst hP hw hK;obtain ⟨Fd,hd⟩:=hg;obtain ⟨ok,ov,hit⟩:=st;obtain ⟨es',Lj,FZ,raw,hl,hm,Nx⟩:=iR I hd;rw [ho] at FZ
  cases FZ
  obtain ⟨f0,f1,f2,f3,f4,f5⟩:=hf it (by simp)
  have hi:i < es.size:=by omega
  refine Jy.rf hit raw hi λh' q1 q2 q3 q4=>?_;obtain ⟨⟨k,v⟩,hk⟩:∃ kv,E9[i]?=some kv:=⟨E9[i],by simp [Fd]⟩;obtain ⟨b,eb,hb,rv⟩:=Nx i hi k v hk;refine ⟨_,rfl,wpAny_letOwnedTupleGo_items (s:={ s with heap:=h' }) q1 λh2 q5 q6=>?_⟩;have JH:s.heap.objs.size≠it:=Nat.ne_of_gt (Heap.lt_size hit);have I1:Inv X pins σ H { s with heap:=h2 }:=I.turned (t':=s.toks) (λb o hb e=>(q6.2 b hb).trans (q4 b o hb e)) f0 f1 f3 f4 f5;have tup:h2.get? s.heap.objs.size=some { cls:=.type "tuple",data:=.seq #[es[i].key,es[i].val] }:=(q6.2 _ JH).trans q2;have fr:H s.heap.objs.size=none:=I.hok.fresh (Nat.le_refl _)
  have I2:Inv X pins σ (upd H s.heap.objs.size (.tup [.ref b,v])) { s with heap:=h2 }:=by
   refine ⟨I1.ok,I1.os,I1.bare,?_,I1.loc,I1.cell,?_,λx c e=>?_,λp hp=>?_,da I1.hok fr ⟨by show 2<=sizeLine; decide,[.ref b,es[i].val],.cons rfl (.cons rv .nil),?_⟩,I1.len⟩
   ·have u:=I1.base;refine ⟨u.keep,u.slot,λb' o' e n hx=>?_,u.there,λb' xs e=>?_,λb' o' u' e=>?_,λb' ps e=>?_⟩
    ·have ne:b'≠s.heap.objs.size:=Nat.ne_of_lt (Nat.lt_of_lt_of_le (Heap.lt_size e) I.sz);rw [ao ne]; exact u.free b' o' e n hx
    ·rw [ao (au (u.tups b' xs e) fr)]; exact u.tups b' xs e
    ·rw [ao (au (u.frzs b' o' u' e) fr)]; exact u.frzs b' o' u' e
    ·obtain ⟨m,q⟩:=u.tbls b' ps e;exact ⟨m,by rw [ao (au q fr)]; exact q⟩
   ·rw [ao (Nat.ne_of_lt I.lt)]; exact I1.free
   ·obtain ⟨v',q⟩:=I.cell x c e;rw [ao (Nat.ne_of_lt q.lt)]; exact I1.freeC x c e
   ·obtain ⟨e,n,r⟩:=I1.pin p hp;have lt:p.1 < s.heap.objs.size:=Heap.lt_size (I.pin p hp).1;exact ⟨e,by rw [ao (Nat.ne_of_lt lt)]; exact n,r⟩
   ·exact ⟨_,tup,rfl,0,by rw [<-eb]⟩
  refine ⟨.ref s.heap.objs.size,_,I2,rfl,⟨s.heap.objs.size,b,k,v,hk,fr,hb,rfl,rfl⟩,⟨_,_,q5⟩,λb' Fq=>?_⟩
  have e:b'=it:=by simpa using Fq
  subst e;rw [ao (Ne.symm JH)];exact f0
 done:=by
  intro X hP hw hK hc i pins s σ H E I hf st hg;subst hP hw hK;obtain ⟨Fd,hd⟩:=hg;obtain ⟨ok,ov,hit⟩:=st;obtain ⟨es',Lj,FZ,raw,hl,hm,Nx⟩:=iR I hd;rw [ho] at FZ
  cases FZ
  obtain ⟨f0,f1,f2,f3,f4,f5⟩:=hf it (by simp);exact Jy.uB (I.ok.hd hc) hit raw (by omega) λh' eb=>⟨rfl,I.turned (t':=s.toks) (λb o hb e=>eb b o hb e) f0 f1 f3 f4 f5⟩
 self:=λA i s Q E st h=>by
  obtain ⟨ok,ov,hit⟩:=st;exact kcp_self hit h
theorem vp {P:Program}{w:World}{K:Frag}{tg:Expr}(d it:Addr)(o:Obj)(E9:List (List Key × V))(es:Array DictEntry)(ep:Nat)(ho:o.data = .dict es ep):Turn P w K tg (Ew d o E9) [it] it (λi h=>h.IsKeyIter it d i es.size ep) where
 mem:=by simp
 obj:=λi h st b hb=>by
  have e:b=it:=by simpa using hb
  subst e;obtain ⟨o,e,c,d⟩:=st;exact ⟨o,e,λv z=>by rw [d] at z; cases z⟩
 keep:=λi h h' st k=>st.at λo e=>k it (by simp) o e
 item:=by
  intro X hP hw hK hc i pins s σ H E I hf st hg;subst hP hw hK;obtain ⟨Fd,hd⟩:=hg;obtain ⟨es',Lj,FZ,raw,hl,hm,Nx⟩:=iR I hd;rw [ho] at FZ
  cases FZ
  obtain ⟨f0,f1,f2,f3,f4,f5⟩:=hf it (by simp)
  have hi:i < es.size:=by omega
  refine Jy.uJ st raw hi λh' q1 q2=>?_;obtain ⟨⟨k,v⟩,hk⟩:∃ kv,E9[i]?=some kv:=⟨E9[i],by simp [Fd]⟩;obtain ⟨b,eb,hb,rv⟩:=Nx i hi k v hk;have I1:Inv X pins σ H { s with heap:=h' }:=I.turned (t':=s.toks) (λb o hb e=>(q2.2 b hb).trans e) f0 f1 f3 f4 f5;obtain ⟨oi,e,c,dd⟩:=id q1;exact ⟨_,rfl,sx (s:={ s with heap:=h' }) e c dd (by decide) ⟨.ref b,H,I1,eb,⟨b,k,v,hk,hb,rfl,rfl⟩,q1,λb hb=>(hf b hb).1⟩⟩
 done:=by
  intro X hP hw hK hc i pins s σ H E I hf st hg;subst hP hw hK;obtain ⟨Fd,hd⟩:=hg;obtain ⟨es',Lj,FZ,raw,hl,hm,Nx⟩:=iR I hd;rw [ho] at FZ
  cases FZ
  obtain ⟨f0,f1,f2,f3,f4,f5⟩:=hf it (by simp);exact Jy.xQ (I.ok.hd hc) st raw (by omega) λh' eb=>⟨rfl,I.turned (t':=s.toks) (λb o hb e=>eb b o hb e) f0 f1 f3 f4 f5⟩
 self:=λ_ _ _ _ _ st h=>wpAny_pyIter_keyiter st h
noncomputable def DX (H1:Hp)(d:Addr)(E9:List (List Key × V))(R:Obj->Hp->Prop):Prop:=(∃ o,H1 d=some (nV o E9)/\R o H1)\/(H1 d=some (.dT E9)/\∀ o,R o (upd H1 d (nV o E9)))
noncomputable def Ce (td:TE):TI:=λσ H R=>td σ H λx H1=>∃ d E9,x = .ref d/\DX H1 d E9 λo H2=>R (D8 d o E9) H2
noncomputable def C8 (td:TE):TI:=λσ H R=>td σ H λx H1=>∃ d E9,x = .ref d/\DX H1 d E9 λo H2=>R (Ew d o E9) H2
section
variable {X:Cx}{pins:List (Addr × Obj)}{σ:St}{H:Hp}{s:Shared}
theorem yl {d:Addr}{E9:List (List Key × V)}{R:Obj->Hp->Prop}(I:Inv X pins σ H s)(h:DX H d E9 R):∃ o H2,Inv X pins σ H2 s/\H2 d=some (nV o E9)/\R o H2:=by
 rcases h with ⟨o,e,r⟩ | ⟨e,r⟩
 ·exact ⟨o,H,I,e,r⟩
 ·obtain ⟨o,_,I2⟩:=I.freeze e;exact ⟨o,_,I2,ah,r o⟩
theorem xO {oe:Expr}{td:TE}{elts:List Expr}{x1:Nat}{tp apos Fj:Pos}(ho:PE X oe td)(HS:attributeBase oe "items" X.env (eval oe X.env)=eval oe X.env:=by rfl)(HU:(apos.endLine == Fj.line)=true:=by rfl):
 PI X (.Tuple elts x1 tp) (.Call (.Attribute oe "items" apos) [] [] Fj) (Ce td):=by
 intro pins s σ H R I h;refine wpAny_Call_method0_late HS HU (bR (ho pins s σ H _ I h) λv s1 ⟨x,H1,I1,r1,d,E9,ex,fz⟩=>?_);subst ex
 cases (show v=Value.ref d from r1)
 obtain ⟨o,H2,I2,hd,rr⟩:=yl I1 fz;obtain ⟨es,ep,S0,raw,hl,hm,_⟩:=iR I2 hd;refine ⟨"dict","dict.items",PySem.F.plainAttrs_dict,PySem.F.slot_dict_items,PySem.F.type_dict_items,raw.ty,λa e=>?_,Calls.callWith_builtin rfl (PySem.evalArgs_none (Jy.qg raw hm ?_))⟩
 ·cases e
  obtain ⟨o',h1,h2,_⟩:=raw.ex;exact ⟨o',h1,h2.2.1⟩
 ·have I3:Inv X pins σ H2 { s1 with heap:=s1.heap.push { cls:=.type "dict_items",data:=.fields #[.ref d] } }:=I2.kept (t':=s1.toks) λb ob q=>Heap.get?_push_of_some _ q;refine Jy.qd (s:={ s1 with heap:=s1.heap.push { cls:=.type "dict_items",data:=.fields #[.ref d] } }) ⟨_,Heap.get?_push_size _ rfl,rfl,rfl⟩ (raw.keep λo e=>Heap.get?_push_of_some _ e) ?_;generalize s1.heap.push { cls:=.type "dict_items",data:=.fields #[.ref d] }=h2 at I3 |-;refine ⟨h2.objs.size,[h2.objs.size],_,D8 d o E9,H2,rfl,I3.kept (t':=s1.toks) λb ob q=>Heap.get?_push_of_some _ q,qh d _ o E9 es ep S0,⟨_,_,Heap.get?_push_size _ rfl⟩,λb hb=>?_,rr⟩
  have e:b=h2.objs.size:=by simpa using hb
  subst e;exact I3.fpOk (Nat.le_refl _) (I3.hok.fresh (Nat.le_refl _))
theorem Ae {tg oe:Expr}{td:TE}(ho:PE X oe td):PI X tg oe (C8 td):=by
 intro pins s σ H R I h;refine bR (ho pins s σ H _ I h) λv s1 ⟨x,H1,I1,r1,d,E9,ex,fz⟩=>?_;subst ex
 cases (show v=Value.ref d from r1)
 obtain ⟨o,H2,I2,hd,rr⟩:=yl I1 fz;obtain ⟨es,ep,S0,raw,hl,hm,_⟩:=iR I2 hd;refine Jy.uO raw hm ⟨s1.heap.objs.size,[s1.heap.objs.size],_,Ew d o E9,H2,rfl,I2.kept (t':=s1.toks) λb ob q=>Heap.get?_push_of_some _ q,vp d _ o E9 es ep S0,⟨_,Heap.get?_push_size _ rfl,rfl,rfl⟩,λb hb=>?_,rr⟩
 have e:b=s1.heap.objs.size:=by simpa using hb
 subst e;exact I2.fpOk (Nat.le_refl _) (I2.hok.fresh (Nat.le_refl _))
theorem Inv.tupAt {s2:Shared}{T:Addr}{xs:List V}{its:List Value}(I:Inv X pins σ H s)(I1:Inv X pins σ H s2)(hT:s.heap.objs.size<=T)(e:s2.heap.get? T=some { cls:=.type "tuple",data:=.seq its.toArray })(r:aK xs its)(hz:xs.length<=sizeLine):
 Inv X pins σ (upd H T (.tup xs)) s2:=by
 have fr:H T=none:=I.hok.fresh hT;refine ⟨I1.ok,I1.os,I1.bare,?_,I1.loc,I1.cell,?_,λx c e=>?_,λp hp=>?_,da I1.hok fr ⟨hz,its,r,⟨_,e,rfl,0,rfl⟩⟩,I1.len⟩
 ·have u:=I1.base;refine ⟨u.keep,u.slot,λb' o' e n hx=>?_,u.there,λb' xs e=>?_,λb' o' u' e=>?_,λb' ps e=>?_⟩
  ·have ne:b'≠T:=Nat.ne_of_lt (Nat.lt_of_lt_of_le (Heap.lt_size e) (Nat.le_trans I.sz hT));rw [ao ne]; exact u.free b' o' e n hx
  ·rw [ao (au (u.tups b' xs e) fr)]; exact u.tups b' xs e
  ·rw [ao (au (u.frzs b' o' u' e) fr)]; exact u.frzs b' o' u' e
  ·obtain ⟨m,q⟩:=u.tbls b' ps e;exact ⟨m,by rw [ao (au q fr)]; exact q⟩
 ·rw [ao (Nat.ne_of_lt (Nat.lt_of_lt_of_le I.lt hT))]; exact I1.free
 ·obtain ⟨v',q⟩:=I.cell x c e;rw [ao (Nat.ne_of_lt (Nat.lt_of_lt_of_le q.lt hT))]; exact I1.freeC x c e
 ·obtain ⟨e,n,r⟩:=I1.pin p hp;have lt:p.1 < s.heap.objs.size:=Heap.lt_size (I.pin p hp).1;exact ⟨e,by rw [ao (Nat.ne_of_lt (Nat.lt_of_lt_of_le lt hT))]; exact n,r⟩
theorem Inv.turnedL {h':Heap}{t':Nat}{ch:List Addr}(I:Inv X pins σ H s)(k:∀ b o,b ∉ ch->s.heap.get? b=some o->h'.get? b=some o)(hf:∀ b∈ch,cC X pins H b):Inv X pins σ H { s with heap:=h',toks:=t' }:=by
 have JH:∀ b u,H b=some u->b ∉ ch:=λb u e z=>by rw [(hf b z).1] at e; cases e
 refine I.step (g':=s.gens) (d':=s.drawn) (ch:=ch) (λb hb=>?_) (λb o _ _ hc e _=>k b o hc e) (λb o _ _ hc e _=>⟨o.slots,k b o hc e⟩) (λ_ _ _ _ n=>n)
  (λb o hc e=>⟨o,k b o hc e⟩) (λ_ _ e=>e) (λ_ _ _ e=>e) (λb ps e=>⟨#[],by rw [e]; simp⟩) (λm hm=>?_) (λb u e=>?_) I.bare
 ·obtain ⟨f0,f1,f2,f3,f4,f5⟩:=hf b hb;exact ⟨f3,f1,f4,f5⟩
 ·obtain ⟨o,es,ep,ho,r⟩:=hm;exact ⟨o,es,ep,k _ o (λz=>(hf _ z).2.1 rfl) ho,r⟩
 ·refine (I.hok b u e).stay (λc v hc q=>k c v ?_ q) (λ_ q=>q) λ_ _ q=>q
  rcases hc with z | z
  ·rw [z]; exact JH b u e
  ·exact JH c _ z
end
noncomputable def Eg (K:Frag)(a:Addr):It :=
 ⟨λi H=>∃ xs x,bu K H a xs/\xs[i]?=some x,λi H x H'=>∃ T y,(∀ xs,bu K H a xs->xs[i]?=some y)/\H T=none/\x = .ref T/\H'=upd H T (.tup [.int i,y]),λi H=>∃ xs,bu K H a xs/\xs.length<=i⟩
theorem vA {P:Program}{w:World}{K:Frag}{elts:List Expr}{x1:Nat}{tp:Pos}(a e it:Addr)(Ft:e≠it):Turn P w K (.Tuple elts x1 tp) (Eg K a) [e,it] e (λi h=>∃ old,IsEnum h e it i old/\h.IsListIter it a i) where
 mem:=by simp
 obj:=λi h st b hb=>by
  obtain ⟨old,h1,o,h2,_,h3⟩:=st
  rcases (by simpa using hb:b=e\/b=it) with z | z
  ·subst z;exact ⟨_,h1,λv z=>by cases z⟩
  ·subst z;exact ⟨o,h2,λv z=>by rw [h3] at z; cases z⟩
 keep:=λi h h' st k=>let ⟨old,h1,h2⟩:=st; ⟨old,k e (by simp) _ h1,h2.at λo q=>k it (by simp) o q⟩
 item:=by
  intro X hP hw hK hc i pins s σ H E I hf st hg;subst hP hw hK;obtain ⟨xs,x,hq,hx⟩:=hg;obtain ⟨its,rv,p,hz⟩:=I.list hq;obtain ⟨u,hu,ru⟩:=rv.get hx;obtain ⟨old,he,hit⟩:=st;refine wpAny_pyNext_enum_item he hit p.isList (x:=u) (by simpa using hu) Ft λh' q1 q2 q3 q4 q5=>?_;refine ⟨_,rfl,wpAny_letOwnedTupleGo_enum (s:={ s with heap:=h',toks:=s.toks + 1 }) q1 λh2 q6 q7=>?_⟩;have WL:s.heap.objs.size≠e:=Nat.ne_of_gt (Heap.lt_size he)
  have I1:Inv X pins σ H { s with heap:=h2,toks:=s.toks + 1 }:=I.turnedL (t':=s.toks + 1) (ch:=[e,it]) (λb o hb z=>by
   have Fq:b≠e/\b≠it:=by simpa using hb
   exact (q7.2 b Fq.1).trans (q5 b o Fq.1 Fq.2 z)) hf
  have tup:h2.get? s.heap.objs.size=some { cls:=.type "tuple",data:=.seq #[.int i s.toks,u] }:=(q7.2 _ WL).trans q3;have fr:H s.heap.objs.size=none:=I.hok.fresh (Nat.le_refl _);have I2:=I.tupAt (xs:=[.int i,x]) (its:=[.int i s.toks,u]) I1 (Nat.le_refl _) tup (.cons ⟨_,rfl⟩ (.cons ru .nil)) kZ;refine ⟨.ref s.heap.objs.size,_,I2,rfl,⟨s.heap.objs.size,x,λys hy=>by rw [I.list_inj hy hq]; exact hx,fr,rfl,rfl⟩,⟨u,q6,q2.at λo q=>(q7.2 _ (Ne.symm Ft)).trans q⟩,λb hb=>?_⟩
  have nb:b≠s.heap.objs.size:=by
   rcases (by simpa using hb:b=e\/b=it) with z | z
   ·subst z; exact Ne.symm WL
   ·subst z;obtain ⟨o,q,_⟩:=hit;exact Nat.ne_of_lt (Heap.lt_size q)
  rw [ao nb];exact (hf b hb).1
 done:=by
  intro X hP hw hK hc i pins s σ H E I hf st hg;subst hP hw hK;obtain ⟨xs,hq,hx⟩:=hg;obtain ⟨its,rv,p,hz⟩:=I.list hq;have hl:=rv.length;obtain ⟨old,he,hit⟩:=st;obtain ⟨f0,f1,f2,f3,f4,f5⟩:=hf it (by simp);exact wpAny_pyNext_enum_end (I.ok.hd hc) he hit p.isList (by simp; omega) λh' eb=>⟨rfl,I.turned (t':=s.toks) (λb o hb e=>eb b o hb e) f0 f1 f3 f4 f5⟩
 self:=λ_ _ _ _ _ st h=>let ⟨old,h1,_⟩:=st; wpAny_pyIter_enum h1 h
noncomputable def C6 (K:Frag)(tl:TE):TI:=λσ H R=>dZ tl tNil σ H λvs H1=>∃ a xs,vs=[.ref a]/\bu K H1 a xs/\R (Eg K a) H1
theorem zg {X:Cx}{l:Expr}{tl:TE}{elts:List Expr}{x1:Nat}{tp p pos:Pos}(hl:PE X l tl)(hg:Gl X "enumerate")(hm:X.mg "enumerate"=none)(hs:gG l=false:=by rfl):
 PI X (.Tuple elts x1 tp) (.Call (.Name "enumerate" p) [l] [] pos) (C6 X.K tl):=by
 intro pins s σ H R I h;refine wpAny_Call_Name_kw (fh I hg hm (by rfl) ?_ (by decide) (by decide));refine PyProof.Rows.callWith_type1 (bR (ai hl af hs pos pins s σ H _ I h) λus s1 ⟨vs,H1,I1,r1,a,xs,hv,hq,rr⟩=>?_) (bX hs) rfl;subst hv;obtain ⟨u,rfl,ru⟩:=gf r1
 cases (show u=Value.ref a from ru)
 obtain ⟨its,rv,pl,hz⟩:=I1.list hq;refine call_enumerate_list pl.isList λh' q1 q2 q3 q4=>?_;have I2:Inv X pins σ H1 { s1 with heap:=h' }:=I1.kept (t':=s1.toks) q4;refine wpAny_pyIter_enum (s:={ s1 with heap:=h' }) q1 ?_;refine ⟨s1.heap.objs.size + 1,[s1.heap.objs.size + 1,s1.heap.objs.size],_,Eg X.K a,H1,rfl,I2,vA a _ _ (Nat.succ_ne_self _),⟨_,q1,q2⟩,λb hb=>?_,rr⟩
 have Fq:s1.heap.objs.size<=b:=by
  rcases (by simpa using hb:b=s1.heap.objs.size + 1\/b=s1.heap.objs.size) with z | z
  ·rw [z]; exact Nat.le_succ _
  ·rw [z]; exact Nat.le_refl _
 exact I1.fpOk Fq (I1.hok.fresh Fq)
end L2
namespace Zp
open PySem PyProof.Rows
section
variable {prog:Program}{w:World}{A:Around}{E:Value->Shared->Prop}{s:Shared}
theorem kb {it t:Addr}{i:Nat}{items:Array Value}{x:Value}{Q:Value->Shared->Prop}(hit:s.heap.IsTupleIter it t i)(ht:s.heap.IsTuple t items)(hx:items[i]?=some x)
 (hQ:∀ h',h'.IsTupleIter it t (i + 1)->Heap.SameBut it s.heap h'->Q x { s with heap:=h' }):wpAny (model prog w) A (Builtin.SmallTypes.nextOf (.ref it)) Q E s:=by
 obtain ⟨o,ho,hc,hd⟩:=id hit;obtain ⟨ol,Ny,_,nl,Nz⟩:=ht;unfold Builtin.SmallTypes.nextOf;refine wpAny_bind (wpAny_callSpecial?_slot (name:=Str.ofString "__next__") hit.typeIs F.slot_tuple_iterator_next (wpAny_call_entry F.slot_tuple_iterator_next hit.typeIs F.entry_tuple_iterator_next ?_ (F.args_tuple_iterator_next_1 _)));show wpAny _ _ (field (.ref it) 0 >>= _) _ _ s;refine wpAny_bind (wpAny_field ho hd (x:=.ref t) rfl ?_);show wpAny _ _ (if (Value.ref t == Value.none)=true then _ else _) _ _ s;rw [if_neg (show ¬ ((Value.ref t == Value.none)=true) from Bool.false_ne_true)];show wpAny _ _ (field (.ref it) 1 >>= _) _ _ s;refine wpAny_bind (wpAny_field ho hd (x:=.int i 0) rfl ?_);show wpAny _ _ (seqItems? (.ref t) >>= _) _ _ s;refine wpAny_bind (wpAny_seqItems Ny Nz ?_);simp only [Int.toNat_natCast,hx];refine wpAny_bind (wpAny_setField ho hd (by simp) (wpAny_pure ⟨x,rfl,wpAny_pure (hQ _ ?_ (Heap.SameBut.update ..))⟩));exact ⟨_,Heap.get?_update_self _ ho (Obj.isFreed_of_fields (Obj.data_mapFields hd _)),(Obj.cls_mapFields ..).trans hc,by rw [Obj.data_mapFields hd]; simp [rawInt]⟩
theorem sC {it t:Addr}{i:Nat}{items:Array Value}{Q:Value->Shared->Prop}(hh:A.handled=none)(hit:s.heap.IsTupleIter it t i)(ht:s.heap.IsTuple t items)(hx:items[i]?=none)
 (hE:∀ h' e,Heap.ExtBut it s.heap h'->(∃ o,h'.get? e=some o/\o.cls = .type "StopIteration")->E (.ref e) { s with heap:=h' }):wpAny (model prog w) A (Builtin.SmallTypes.nextOf (.ref it)) Q E s:=by
 obtain ⟨o,ho,hc,hd⟩:=id hit;obtain ⟨ol,Ny,_,nl,Nz⟩:=ht;unfold Builtin.SmallTypes.nextOf;refine wpAny_bind (wpAny_callSpecial?_slot (name:=Str.ofString "__next__") hit.typeIs F.slot_tuple_iterator_next (wpAny_call_entry F.slot_tuple_iterator_next hit.typeIs F.entry_tuple_iterator_next ?_ (F.args_tuple_iterator_next_1 _)));show wpAny _ _ (field (.ref it) 0 >>= _) _ _ s;refine wpAny_bind (wpAny_field ho hd (x:=.ref t) rfl ?_);show wpAny _ _ (if (Value.ref t == Value.none)=true then _ else _) _ _ s;rw [if_neg (show ¬ ((Value.ref t == Value.none)=true) from Bool.false_ne_true)];show wpAny _ _ (field (.ref it) 1 >>= _) _ _ s;refine wpAny_bind (wpAny_field ho hd (x:=.int i 0) rfl ?_);show wpAny _ _ (seqItems? (.ref t) >>= _) _ _ s;refine wpAny_bind (wpAny_seqItems Ny Nz ?_);simp only [Int.toNat_natCast,hx];refine wpAny_bind (wpAny_rule (wpAny_bind (wpAny_setField ho hd (by simp) ?_)));show wpAny _ _ (newExc (.type "StopIteration") [] >>= _) _ _ _;refine wpAny_bind ?_;simp only [newExc,newTuple];refine wpAny_bind (wpAny_newObj_type ?_ (by size_fits));refine wpAny_bind (m:=firstArgMember _ _) (wpAny_of_eq (a:=Value.none) (by first | rfl | (simp only [firstArgMember]; rfl)) ?_);refine wpAny_newObj_type ?_ (by size_fits);simp only [raiseNew];refine wpAny_bind (wpAny_handled ?_)
 first | rw [show A.in1.handled=none from hh] | rw [hh]
 refine wpAny_bind (wpAny_pure (wpAny_throw ?_));exact hE _ _ (((Heap.SameBut.update ..).extBut.push _).push _) ⟨_,Heap.get?_push_size _ rfl,rfl⟩
end
structure Apart (z TI TO i1 i2 l1 l2:Addr):Prop where
 TIz:TI≠z
 TOz:TO≠z
 i1z:i1≠z
 i2z:i2≠z
 TITO:TI≠TO
 TIi1:TI≠i1
 TIi2:TI≠i2
 TOi1:TO≠i1
 TOi2:TO≠i2
 i12:i1≠i2
 l1n:l1 ∉ [z,TO,i1,i2]
 l2n:l2 ∉ [z,TO,i1,i2]
structure Zs (h:Heap)(z TI TO i1 i2 l1 l2:Addr)(k:Nat):Prop where
 hz:IsZip h z TI TO .none
 hTI:IsPair h TI (.ref i1) (.ref i2)
 Rz:∃ a b,IsPair h TO a b
 h1:h.IsTupleIter i1 l1 k
 h2:h.IsTupleIter i2 l2 k
theorem fX {h h':Heap}{i l:Addr}{k:Nat}(x:h.IsTupleIter i l k)(q:∀ o,h.get? i=some o->h'.get? i=some o):h'.IsTupleIter i l k:=let ⟨o,a,b⟩:=x; ⟨o,q o a,b⟩
section
variable {prog:Program}{w:World}{A:Around}{E:Value->Shared->Prop}{s:Shared}{z TI TO i1 i2 l1 l2:Addr}{k:Nat}{xs ys:Array Value}{x y:Value}
theorem item {Q:Value->Shared->Prop}(D:Apart z TI TO i1 i2 l1 l2)(Z:Zs s.heap z TI TO i1 i2 l1 l2 k)(Gs:s.heap.IsTuple l1 xs)(GO:s.heap.IsTuple l2 ys)(hx:xs[k]?=some x)(hy:ys[k]?=some y)
 (hQ:∀ h',IsZip h' z TI TO (rawInt s.heap.objs.size)->(∃ a b,IsPair h' TO a b)->h'.IsTupleIter i1 l1 (k + 1)->h'.IsTupleIter i2 l2 (k + 1)->IsPair h' s.heap.objs.size x y →
  (∀ c o,c ∉ [z,TO,i1,i2]->s.heap.get? c=some o->h'.get? c=some o)->Q (.ref s.heap.objs.size) { s with heap:=h' }):
 wpAny (model prog w) A (Builtin.«zip.__next__» ⟨[.ref z],[]⟩) (λfin s'=>∃ v,fin = .done (.ret v)/\Q v s') E s:=by
 obtain ⟨hz,hTI,⟨a,b,Rz⟩,h1,h2⟩:=Z
 have n1:l1≠z/\l1≠TO/\l1≠i1/\l1≠i2:=by simpa using D.l1n
 have n2:l2≠z/\l2≠TO/\l2≠i1/\l2≠i2:=by simpa using D.l2n
 show wpAny _ _ (field (.ref z) 2 >>= _) _ _ _;refine wpAny_bind (wpAny_field hz rfl (x:=.bool false) rfl ?_);show wpAny _ _ (field (.ref z) 3 >>= _) _ _ _;refine wpAny_bind (wpAny_field hz rfl (x:=.ref TI) rfl ?_);refine wpAny_bind (wpAny_seqItems hTI rfl ?_);show wpAny _ _ (Builtin.SmallTypes.ownedTupleIsFree (.ref z) >>= _) _ _ _;refine wpAny_bind ?_;unfold Builtin.SmallTypes.ownedTupleIsFree;refine wpAny_bind (wpAny_field hz rfl (x:=.none) rfl (wpAny_pure ?_));simp only [if_true];refine wpAny_bind (wpAny_rule ?_);refine wpAny_bind (wpAny_field hz rfl (x:=.ref TO) rfl ?_);refine wpAny_bind (wpAny_setField_rec hz (by simp) λg1 IX s1=>?_)
 replace IX:IsZip g1 z TI TO .ellipsis:=IX
 refine wpAny_bind ?_;simp only [List.zipIdx_cons,List.zipIdx_nil,List.forIn_cons,List.forIn_nil];refine wpAny_bind (wpAny_bind (wpAny_onRaise ?_));show wpAny _ _ (Builtin.SmallTypes.nextOf (.ref i1) >>= _) _ _ _;refine wpAny_bind (kb (h1.extBut s1.extBut D.i1z) (Gs.extBut s1.extBut n1.1) hx λg2 a2 s2=>wpAny_pure ?_);have t2:IsPair g2 TO a b:=s2.extBut _ _ D.TOi1 (s1.extBut _ _ D.TOz Rz);refine wpAny_bind (wpAny_seqItems t2 rfl ?_);refine wpAny_bind (wpAny_updateSeq_pair t2 λg3 t3 s3=>?_)
 replace t3:IsPair g3 TO x b:=t3
 refine wpAny_bind (wpAny_letGo (wpAny_pure ?_));refine wpAny_bind (wpAny_bind (wpAny_onRaise ?_));show wpAny _ _ (Builtin.SmallTypes.nextOf (.ref i2) >>= _) _ _ _;refine wpAny_bind (kb (((h2.extBut s1.extBut D.i2z).extBut s2.extBut D.i12.symm).extBut s3.extBut D.TOi2.symm) (((GO.extBut s1.extBut n2.1).extBut s2.extBut n2.2.2.1).extBut s3.extBut n2.2.1) hy λg4 a4 s4=>wpAny_pure ?_);have t4:IsPair g4 TO x b:=s4.extBut _ _ D.TOi2 t3;refine wpAny_bind (wpAny_seqItems t4 rfl ?_);refine wpAny_bind (wpAny_updateSeq_pair t4 λg5 t5 s5=>?_)
 replace t5:IsPair g5 TO x y:=t5
 refine wpAny_bind (wpAny_letGo (wpAny_pure (wpAny_pure ?_)));refine wpAny_bind (wpAny_seqItems t5 rfl ?_);refine wpAny_bind (wpAny_newTuple ?_)
 have sz:g5.objs.size=s.heap.objs.size:=by rw [s5.1,s4.1,s3.1,s2.1,s1.1]
 have z5:IsZip g5 z TI TO .ellipsis:=s5.extBut _ _ D.TOz.symm (s4.extBut _ _ D.i2z.symm (s3.extBut _ _ D.TOz.symm (s2.extBut _ _ D.i1z.symm IX)))
 have k5:∀ c o,c ∉ [z,TO,i1,i2]->s.heap.get? c=some o->g5.get? c=some o:=λc o hc e=>by
  have Fi:c≠z/\c≠TO/\c≠i1/\c≠i2:=by simpa using hc
  exact s5.extBut _ _ Fi.2.1 (s4.extBut _ _ Fi.2.2.2 (s3.extBut _ _ Fi.2.1 (s2.extBut _ _ Fi.2.2.1 (s1.extBut _ _ Fi.1 e))))
 have a5:g5.IsTupleIter i1 l1 (k + 1):=((a2.extBut s3.extBut D.TOi1.symm).extBut s4.extBut D.i12).extBut s5.extBut D.TOi1.symm;have b5:g5.IsTupleIter i2 l2 (k + 1):=a4.extBut s5.extBut D.TOi2.symm;have WM:z < g5.objs.size:=Heap.lt_size z5;show wpAny _ _ (Builtin.SmallTypes.ownedTupleHandOut (.ref z) (.ref g5.objs.size) >>= _) _ _ _;refine wpAny_bind ?_;unfold Builtin.SmallTypes.ownedTupleHandOut;have z6:IsZip (g5.push { cls:=.type "tuple",data:=.seq #[x,y] }) z TI TO .ellipsis:=Heap.get?_push_of_some _ z5;refine wpAny_bind (wpAny_setField_rec z6 (by simp) λg7 z7 s7=>?_)
 replace z7:IsZip g7 z TI TO (rawInt g5.objs.size):=z7
 refine wpAny_setField_rec z7 (by simp) λg8 z8 s8=>?_
 replace z8:IsZip g8 z TI TO (rawInt g5.objs.size):=z8
 have up:∀ c o,c≠z->g5.get? c=some o->g8.get? c=some o:=λc o c1 e=>s8.extBut _ _ c1 (s7.extBut _ _ c1 (Heap.get?_push_of_some _ e));have t8:IsPair g8 g5.objs.size x y:=s8.extBut _ _ (Nat.ne_of_gt WM) (s7.extBut _ _ (Nat.ne_of_gt WM) (Heap.get?_push_size _ rfl));rw [sz] at z8 t8;refine wpAny_pure ⟨_,rfl,?_⟩;show Q (.ref g5.objs.size) _;rw [sz];exact hQ g8 z8 ⟨x,y,up _ _ D.TOz t5⟩ (fX a5 λo e=>up _ o D.i1z e) (fX b5 λo e=>up _ o D.i2z e) t8 λc o hc e=>up c o (λq=>hc (by simp [q])) (k5 c o hc e)
theorem EG {Q:Fin->Shared->Prop}(hh:A.handled=none)(D:Apart z TI TO i1 i2 l1 l2)(Z:Zs s.heap z TI TO i1 i2 l1 l2 k)(Gs:s.heap.IsTuple l1 xs)(GO:s.heap.IsTuple l2 ys)(LB:xs[k]?=none\/ys[k]?=none)
 (hE:∀ h' e,(∀ c o,c ∉ [z,TO,i1,i2]->s.heap.get? c=some o->h'.get? c=some o)->(∃ o,h'.get? e=some o/\o.cls = .type "StopIteration")->E (.ref e) { s with heap:=h' }):
 wpAny (model prog w) A (Builtin.«zip.__next__» ⟨[.ref z],[]⟩) Q E s:=by
 obtain ⟨hz,hTI,⟨a,b,Rz⟩,h1,h2⟩:=Z
 have n1:l1≠z/\l1≠TO/\l1≠i1/\l1≠i2:=by simpa using D.l1n
 have n2:l2≠z/\l2≠TO/\l2≠i1/\l2≠i2:=by simpa using D.l2n
 show wpAny _ _ (field (.ref z) 2 >>= _) _ _ _;refine wpAny_bind (wpAny_field hz rfl (x:=.bool false) rfl ?_);show wpAny _ _ (field (.ref z) 3 >>= _) _ _ _;refine wpAny_bind (wpAny_field hz rfl (x:=.ref TI) rfl ?_);refine wpAny_bind (wpAny_seqItems hTI rfl ?_);show wpAny _ _ (Builtin.SmallTypes.ownedTupleIsFree (.ref z) >>= _) _ _ _;refine wpAny_bind ?_;unfold Builtin.SmallTypes.ownedTupleIsFree;refine wpAny_bind (wpAny_field hz rfl (x:=.none) rfl (wpAny_pure ?_));simp only [if_true];refine wpAny_bind (wpAny_rule ?_);refine wpAny_bind (wpAny_field hz rfl (x:=.ref TO) rfl ?_);refine wpAny_bind (wpAny_setField_rec hz (by simp) λg1 IX s1=>?_)
 replace IX:IsZip g1 z TI TO .ellipsis:=IX
 refine wpAny_bind ?_;simp only [List.zipIdx_cons,List.zipIdx_nil,List.forIn_cons,List.forIn_nil];refine wpAny_bind (wpAny_bind (wpAny_onRaise ?_));show wpAny _ _ (Builtin.SmallTypes.nextOf (.ref i1) >>= _) _ _ _
 cases hx:xs[k]? with
 | none =>
   refine wpAny_bind (sC hh (h1.extBut s1.extBut D.i1z) (Gs.extBut s1.extBut n1.1) hx λg2 e s2 he=>?_);obtain ⟨oe,HL,NA⟩:=he;have z2:IsZip g2 z TI TO .ellipsis:=s2 _ _ D.i1z.symm IX
   have ez:e≠z:=λq=>by subst q; rw [z2] at HL; cases HL; simp at NA
   refine wpAny_setField_rec z2 (by simp) λg3 _ s3=>hE g3 e (λc o hc q=>?_) ⟨oe,s3.extBut _ _ ez HL,NA⟩
   have Fi:c≠z/\c≠TO/\c≠i1/\c≠i2:=by simpa using hc
   exact s3.extBut _ _ Fi.1 (s2 _ _ Fi.2.2.1 (s1.extBut _ _ Fi.1 q))
 | some x =>
   have hy:ys[k]?=none:=by
    rcases LB with h | h
    ·rw [hx] at h; cases h
    ·exact h
   refine wpAny_bind (kb (h1.extBut s1.extBut D.i1z) (Gs.extBut s1.extBut n1.1) hx λg2 a2 s2=>wpAny_pure ?_);have t2:IsPair g2 TO a b:=s2.extBut _ _ D.TOi1 (s1.extBut _ _ D.TOz Rz);refine wpAny_bind (wpAny_seqItems t2 rfl ?_);refine wpAny_bind (wpAny_updateSeq_pair t2 λg3 t3 s3=>?_);refine wpAny_bind (wpAny_letGo (wpAny_pure ?_));refine wpAny_bind (wpAny_bind (wpAny_onRaise ?_));show wpAny _ _ (Builtin.SmallTypes.nextOf (.ref i2) >>= _) _ _ _;refine wpAny_bind (sC hh (((h2.extBut s1.extBut D.i2z).extBut s2.extBut D.i12.symm).extBut s3.extBut D.TOi2.symm) (((GO.extBut s1.extBut n2.1).extBut s2.extBut n2.2.2.1).extBut s3.extBut n2.2.1) hy λg4 e s4 he=>?_);obtain ⟨oe,HL,NA⟩:=he;have z4:IsZip g4 z TI TO .ellipsis:=s4 _ _ D.i2z.symm (s3.extBut _ _ D.TOz.symm (s2.extBut _ _ D.i1z.symm IX))
   have ez:e≠z:=λq=>by subst q; rw [z4] at HL; cases HL; simp at NA
   refine wpAny_setField_rec z4 (by simp) λg5 _ s5=>hE g5 e (λc o hc q=>?_) ⟨oe,s5.extBut _ _ ez HL,NA⟩
   have Fi:c≠z/\c≠TO/\c≠i1/\c≠i2:=by simpa using hc
   exact s5.extBut _ _ Fi.1 (s4 _ _ Fi.2.2.2 (s3.extBut _ _ Fi.2.1 (s2.extBut _ _ Fi.2.2.1 (s1.extBut _ _ Fi.1 q))))
theorem uR {Q:Option Value->Shared->Prop}(D:Apart z TI TO i1 i2 l1 l2)(Z:Zs s.heap z TI TO i1 i2 l1 l2 k)(Gs:s.heap.IsTuple l1 xs)(GO:s.heap.IsTuple l2 ys)(hx:xs[k]?=some x)(hy:ys[k]?=some y)
 (hQ:∀ h',IsZip h' z TI TO (rawInt s.heap.objs.size)->(∃ a b,IsPair h' TO a b)->h'.IsTupleIter i1 l1 (k + 1)->h'.IsTupleIter i2 l2 (k + 1)->IsPair h' s.heap.objs.size x y →
  (∀ c o,c ∉ [z,TO,i1,i2]->s.heap.get? c=some o->h'.get? c=some o)->Q (some (.ref s.heap.objs.size)) { s with heap:=h' }):
 wpAny (model prog w) A (pyNext (.ref z)) Q E s:=by
 have hT:s.TypeIs (.ref z) "zip":=⟨_,Z.hz,rfl⟩;unfold pyNext
 exact wpAny_bind (wpAny_attempt (wpAny_callSpecial?_slot (name:=Str.ofString "__next__") hT F.slot_zip_next
  (wpAny_call_entry F.slot_zip_next hT F.entry_zip_next (item D Z Gs GO hx hy λh' a1 a2 a3 a4 a5 a6=>wpAny_pure (hQ h' a1 a2 a3 a4 a5 a6)) (F.args_zip_next_1 _))))
theorem uQ {Q:Option Value->Shared->Prop}(hh:A.handled=none)(D:Apart z TI TO i1 i2 l1 l2)(Z:Zs s.heap z TI TO i1 i2 l1 l2 k)(Gs:s.heap.IsTuple l1 xs)(GO:s.heap.IsTuple l2 ys)(LB:xs[k]?=none\/ys[k]?=none)
 (hQ:∀ h',(∀ c o,c ∉ [z,TO,i1,i2]->s.heap.get? c=some o->h'.get? c=some o)->Q none { s with heap:=h' }):wpAny (model prog w) A (pyNext (.ref z)) Q E s:=by
 have hT:s.TypeIs (.ref z) "zip":=⟨_,Z.hz,rfl⟩;unfold pyNext
 refine wpAny_bind (wpAny_attempt (wpAny_callSpecial?_slot (name:=Str.ofString "__next__") hT F.slot_zip_next
  (wpAny_call_entry F.slot_zip_next hT F.entry_zip_next (EG hh D Z Gs GO LB λh' e hk he=>?_) (F.args_zip_next_1 _))))
 obtain ⟨o,ho,hc⟩:=he;refine wpAny_bind (wpAny_isInstance (T:="StopIteration") (b:=true) ⟨o,ho,hc⟩ isSubtype_stop ?_);exact wpAny_pure (hQ _ hk)
end
noncomputable abbrev g1 (h:Heap)(l1:Addr):Heap:=h.push { cls:=.type "tuple_iterator",data:=.fields #[.ref l1,.int 0 0] }
noncomputable abbrev g2 (h:Heap)(l1 l2:Addr):Heap:=(g1 h l1).push { cls:=.type "tuple_iterator",data:=.fields #[.ref l2,.int 0 0] }
noncomputable abbrev g3 (h:Heap)(l1 l2:Addr):Heap:=(g2 h l1 l2).push { cls:=.type "tuple",data:=.seq #[.ref h.objs.size,.ref (g1 h l1).objs.size] }
noncomputable abbrev g4 (h:Heap)(l1 l2:Addr):Heap:=(g3 h l1 l2).push { cls:=.type "tuple",data:=.seq #[.none,.none] }
noncomputable abbrev g5 (h:Heap)(l1 l2:Addr):Heap:=(g4 h l1 l2).push { cls:=.type "zip",data:=.fields #[.none,.bool false,.bool false,.ref (g2 h l1 l2).objs.size,.ref (g3 h l1 l2).objs.size] }
theorem uS (l1 l2:Addr)(xs ys:Array Value):
 Meets (Builtin.«zip.__new__» ⟨[.type "zip",.ref l1,.ref l2],[]⟩) (λ_ R s=>s.heap.IsTuple l1 xs/\s.heap.IsTuple l2 ys/\R (.ok (.ret (.ref (g4 s.heap l1 l2).objs.size))) { s with heap:=g5 s.heap l1 l2 }):=
 .of_wp λprog w A R s h=>by
  obtain ⟨hp,g,d,tk,os⟩:=s; obtain ⟨Gs,GO,h⟩:=h;have Zg:=sub_zip;have RA:Heap.IsTuple (Shared.heap ⟨hp,g,d,tk,os⟩) l1 xs:=Gs;have MD:Heap.IsTuple (Shared.heap ⟨hp.push { cls:=.type "tuple_iterator",data:=.fields #[.ref l1,.int 0 0] },g,d,tk,os⟩) l2 ys:=Heap.IsTuple.push GO _
  wp_walk using wpAny_pyIter_tuple RA,wpAny_pyIter_tuple MD
  exact ⟨_,rfl,h⟩
section
variable {prog:Program}{w:World}{A:Around}{E:Value->Shared->Prop}{s:Shared}
theorem CQ {l1 l2:Addr}{xs ys:Array Value}{Q:Value->Shared->Prop}(Gs:s.heap.IsTuple l1 xs)(GO:s.heap.IsTuple l2 ys)
 (h:∀ h',Zs h' (s.heap.objs.size + 4) (s.heap.objs.size + 2) (s.heap.objs.size + 3) s.heap.objs.size (s.heap.objs.size + 1) l1 l2 0->(∀ c o,s.heap.get? c=some o->h'.get? c=some o)->Q (.ref (s.heap.objs.size + 4)) { s with heap:=h' }):
 wpAny (model prog w) A (call (.type "zip") [.ref l1,.ref l2]) Q E s:=by
 refine callType_new F.called_zip (by decide) (F.typeCall_zip_2 _ _) (F.newCall_zip_2 _ _) (λobj=>F.args_object_init_3 obj _ _) F.entry_zip_new (uS l1 l2 xs ys) ⟨Gs,GO,?_⟩;have z1:(g1 s.heap l1).objs.size=s.heap.objs.size + 1:=Heap.size_push ..
 have z2:(g2 s.heap l1 l2).objs.size=s.heap.objs.size + 2:=by rw [Heap.size_push,z1]
 have z3:(g3 s.heap l1 l2).objs.size=s.heap.objs.size + 3:=by rw [Heap.size_push,z2]
 have z4:(g4 s.heap l1 l2).objs.size=s.heap.objs.size + 4:=by rw [Heap.size_push,z3]
 have q5:(g5 s.heap l1 l2).get? (g4 s.heap l1 l2).objs.size=some _:=Heap.get?_push_size _ rfl;have q4:(g5 s.heap l1 l2).get? (g3 s.heap l1 l2).objs.size=some _:=Heap.get?_push_of_some _ (Heap.get?_push_size _ rfl);have q3:(g5 s.heap l1 l2).get? (g2 s.heap l1 l2).objs.size=some _:=Heap.get?_push_of_some _ (Heap.get?_push_of_some _ (Heap.get?_push_size _ rfl));have q2:(g5 s.heap l1 l2).get? (g1 s.heap l1).objs.size=some _:=Heap.get?_push_of_some _ (Heap.get?_push_of_some _ (Heap.get?_push_of_some _ (Heap.get?_push_size _ rfl)));have q1:(g5 s.heap l1 l2).get? s.heap.objs.size=some _:=Heap.get?_push_of_some _ (Heap.get?_push_of_some _ (Heap.get?_push_of_some _ (Heap.get?_push_of_some _ (Heap.get?_push_size _ rfl))));show _/\_;rw [z2,z3,z4] at q5;rw [z1,z2] at q3;rw [z3] at q4;rw [z1] at q2;rw [z4];exact ⟨⟨_,q5,rfl⟩,h _ ⟨q5,q3,⟨_,_,q4⟩,⟨_,q1,rfl,rfl⟩,⟨_,q2,rfl,rfl⟩⟩ λc o e=>Heap.get?_push_of_some _ (Heap.get?_push_of_some _ (Heap.get?_push_of_some _ (Heap.get?_push_of_some _ (Heap.get?_push_of_some _ e))))⟩
end
theorem cm {a b:Nat}(h:a≠b):(a:Addr)≠b:=h
theorem w9 (n a b:Nat)(ha:a < n)(hb:b < n):Apart (n + 4) (n + 2) (n + 3) n (n + 1) a b:=by
 refine ⟨cm ?_,cm ?_,cm ?_,cm ?_,cm ?_,cm ?_,cm ?_,cm ?_,cm ?_,cm ?_,?_,?_⟩
 any_goals omega
 ·simp only [List.mem_cons,List.not_mem_nil,or_false,not_or];exact ⟨cm (by omega),cm (by omega),cm (by omega),cm (by omega)⟩
 ·simp only [List.mem_cons,List.not_mem_nil,or_false,not_or];exact ⟨cm (by omega),cm (by omega),cm (by omega),cm (by omega)⟩
end Zp
namespace L2
open PySem PySem.Spec PyProof.Rows PySem.W
noncomputable def DI (K:Frag)(a b:Addr):It :=
 ⟨λi H=>∃ xs ys x y,a9 K H a xs/\a9 K H b ys/\xs[i]?=some x/\ys[i]?=some y,
  λi H v H'=>∃ T x y,(∀ xs,a9 K H a xs->xs[i]?=some x)/\(∀ ys,a9 K H b ys->ys[i]?=some y)/\H T=none/\v = .ref T/\H'=upd H T (.tup [x,y]),
  λi H=>∃ xs ys,a9 K H a xs/\a9 K H b ys/\(xs.length<=i\/ys.length<=i)⟩
theorem wD {P:Program}{w:World}{K:Frag}{elts:List Expr}{x1:Nat}{tp:Pos}{a b z TI TO i1 i2:Addr}(D:Zp.Apart z TI TO i1 i2 a b):
 Turn P w K (.Tuple elts x1 tp) (DI K a b) [z,TO,i1,i2,TI] z (λi h=>Zp.Zs h z TI TO i1 i2 a b i) where
 mem:=by simp
 obj:=λi h st c hb=>by
  obtain ⟨h1,h2,⟨_,_,h3⟩,⟨o4,h4,_,d4⟩,⟨o5,h5,_,d5⟩⟩:=st
  rcases (by simpa using hb:c=z\/c=TO\/c=i1\/c=i2\/c=TI) with q | q | q | q | q
  ·subst q; exact ⟨_,h1,λv q=>by cases q⟩
  ·subst q; exact ⟨_,h3,λv q=>by cases q⟩
  ·subst q; exact ⟨_,h4,λv q=>by rw [d4] at q; cases q⟩
  ·subst q; exact ⟨_,h5,λv q=>by rw [d5] at q; cases q⟩
  ·subst q; exact ⟨_,h2,λv q=>by cases q⟩
 keep:=λi h h' st k=>by
  obtain ⟨h1,h2,⟨_,_,h3⟩,h4,h5⟩:=st;exact ⟨k z (by simp) _ h1,k TI (by simp) _ h2,⟨_,_,k TO (by simp) _ h3⟩,Zp.fX h4 λo q=>k i1 (by simp) o q,Zp.fX h5 λo q=>k i2 (by simp) o q⟩
 item:=by
  intro X hP hw hK hc i pins s σ H E I hf st hg;subst hP hw hK;obtain ⟨xs,ys,x,y,hq,hr,hx,hy⟩:=hg;obtain ⟨its,rv,p,hz⟩:=I.tuple hq;obtain ⟨NB,Gm,p',RB⟩:=I.tuple hr;obtain ⟨u,hu,ru⟩:=rv.get hx;obtain ⟨v,hv,Tc⟩:=Gm.get hy;refine Zp.uR D st (show s.heap.IsTuple a its.toArray from p) (show s.heap.IsTuple b NB.toArray from p') (x:=u) (y:=v) (by simpa using hu) (by simpa using hv) λh' q1 q2 q3 q4 q5 q6=>?_;refine ⟨_,rfl,wpAny_letOwnedTupleGo_zip (s:={ s with heap:=h' }) q1 λh2 q7 q8=>?_⟩;have lt:∀ c o,s.heap.get? c=some o->c≠s.heap.objs.size:=λc o e=>Nat.ne_of_lt (Heap.lt_size e)
  have I1:Inv X pins σ H { s with heap:=h2 }:=I.turnedL (t':=s.toks) (ch:=[z,TO,i1,i2]) (λc o hc e=>(q8.2 c λq=>hc (by simp [q])).trans (q6 c o hc e)) λc hc=>hf c (by
   rcases (by simpa using hc:c=z\/c=TO\/c=i1\/c=i2) with q | q | q | q <;> simp [q])
  have nz:s.heap.objs.size≠z:=Ne.symm (lt z _ st.hz);have tup:h2.get? s.heap.objs.size=some { cls:=.type "tuple",data:=.seq #[u,v] }:=(q8.2 _ nz).trans q5;have fr:H s.heap.objs.size=none:=I.hok.fresh (Nat.le_refl _);have I2:=I.tupAt (xs:=[x,y]) (its:=[u,v]) I1 (Nat.le_refl _) tup (.cons ru (.cons Tc .nil)) kZ;have up:∀ c o,c≠z->h'.get? c=some o->h2.get? c=some o:=λc o hc e=>(q8.2 c hc).trans e;obtain ⟨aa,bb,q2⟩:=q2;have Td:IsPair h' TI (.ref i1) (.ref i2):=q6 TI _ (by simp only [List.mem_cons,List.not_mem_nil,or_false,not_or]; exact ⟨D.TIz,D.TITO,D.TIi1,D.TIi2⟩) st.hTI
  refine ⟨.ref s.heap.objs.size,_,I2,rfl,⟨s.heap.objs.size,x,y,λzs ME=>by rw [I.tuple_inj ME hq]; exact hx,λzs ME=>by rw [I.tuple_inj ME hr]; exact hy,fr,rfl,rfl⟩,
   ⟨q7,up _ _ D.TIz Td,⟨aa,bb,up _ _ D.TOz q2⟩,Zp.fX q3 λo e=>up _ o D.i1z e,Zp.fX q4 λo e=>up _ o D.i2z e⟩,λc hb=>?_⟩
  have nb:c≠s.heap.objs.size:=by
   obtain ⟨h1,h2,⟨_,_,h3⟩,⟨o4,h4,_,d4⟩,⟨o5,h5,_,d5⟩⟩:=st
   rcases (by simpa using hb:c=z\/c=TO\/c=i1\/c=i2\/c=TI) with q | q | q | q | q <;> subst q
   ·exact lt _ _ h1
   ·exact lt _ _ h3
   ·exact lt _ _ h4
   ·exact lt _ _ h5
   ·exact lt _ _ h2
  rw [ao nb];exact (hf c hb).1
 done:=by
  intro X hP hw hK hc i pins s σ H E I hf st hg;subst hP hw hK;obtain ⟨xs,ys,hq,hr,hx⟩:=hg;obtain ⟨its,rv,p,hz⟩:=I.tuple hq;obtain ⟨NB,Gm,p',RB⟩:=I.tuple hr;have l1:=rv.length;have l2:=Gm.length
  refine Zp.uQ (I.ok.hd hc) D st (show s.heap.IsTuple a its.toArray from p) (show s.heap.IsTuple b NB.toArray from p') (by
   rcases hx with q | q
   ·left; simp; omega
   ·right; simp; omega) λh' q=>⟨rfl,?_⟩
  exact I.turnedL (t':=s.toks) (ch:=[z,TO,i1,i2]) q λc hc=>hf c (by
   rcases (by simpa using hc:c=z\/c=TO\/c=i1\/c=i2) with q | q | q | q <;> simp [q])
 self:=λ_ _ _ _ _ st h=>wpAny_pyIter_zip st.hz h
noncomputable def El (K:Frag)(ta tb:TE):TI:=λσ H R=>dZ ta (dZ tb tNil) σ H λvs H1=>∃ a b xs ys,vs=[.ref a,.ref b]/\a9 K H1 a xs/\a9 K H1 b ys/\R (DI K a b) H1
theorem BR {X:Cx}{ea eb:Expr}{ta tb:TE}{elts:List Expr}{x1:Nat}{tp p pos:Pos}(ha:PE X ea ta)(hb:PE X eb tb)(hg:Gl X "zip")(hm:X.mg "zip"=none)(hs:gG ea=false:=by rfl)(JT:gG eb=false:=by rfl):
 PI X (.Tuple elts x1 tp) (.Call (.Name "zip" p) [ea,eb] [] pos) (El X.K ta tb):=by
 intro pins s σ H R I h;refine wpAny_Call_Name_kw (fh I hg hm (by rfl) ?_ (by decide) (by decide));refine PyProof.Rows.callWith_type1 (bR (ai ha (ai hb af JT) hs pos pins s σ H _ I h) λus s1 ⟨vs,H1,I1,r1,a,b,xs,ys,hv,hq,hr,rr⟩=>?_) (bX hs) (by rw [bX JT]; rfl);subst hv;obtain ⟨u,u',rfl,ru,Tc⟩:=wu r1
 cases (show u=Value.ref a from ru)
 cases (show u'=Value.ref b from Tc)
 obtain ⟨its,rv,pl,hz⟩:=I1.tuple hq;obtain ⟨NB,Gm,WN,RB⟩:=I1.tuple hr;refine Zp.CQ (show s1.heap.IsTuple a its.toArray from pl) (show s1.heap.IsTuple b NB.toArray from WN) λh' q1 q4=>?_;have I2:Inv X pins σ H1 { s1 with heap:=h' }:=I1.kept (t':=s1.toks) q4
 have la:a < s1.heap.objs.size:=by obtain ⟨o,e,_⟩:=pl; exact Heap.lt_size e
 have lb:b < s1.heap.objs.size:=by obtain ⟨o,e,_⟩:=WN; exact Heap.lt_size e
 refine wpAny_pyIter_zip (s:={ s1 with heap:=h' }) q1.hz ?_;refine ⟨s1.heap.objs.size + 4,[s1.heap.objs.size + 4,s1.heap.objs.size + 3,s1.heap.objs.size,s1.heap.objs.size + 1,s1.heap.objs.size + 2],_,DI X.K a b,H1,rfl,I2,wD (Zp.w9 _ _ _ la lb),q1,λc hc=>?_,rr⟩
 have Fq:s1.heap.objs.size<=c:=by
  rcases (by simpa using hc:c=s1.heap.objs.size + 4\/c=s1.heap.objs.size + 3\/c=s1.heap.objs.size\/c=s1.heap.objs.size + 1\/c=s1.heap.objs.size + 2) with q | q | q | q | q <;> rw [q]
  ·exact Nat.le_add_right _ _
  ·exact Nat.le_add_right _ _
  ·exact Nat.le_refl _
  ·exact Nat.le_add_right _ _
  ·exact Nat.le_add_right _ _
 exact I1.fpOk Fq (I1.hok.fresh Fq)
end L2
namespace K06
open PySem L2 PySem.W
noncomputable abbrev ET:Stmt:=aU (aZ 34) 1
noncomputable abbrev rN:Stmt:=aU (aZ 34) 3
noncomputable abbrev wo:Stmt:=(aZ 10)
noncomputable abbrev gS:Stmt:=(aZ 11)
noncomputable def BY (C:Addr):Sp:=λvs H Q _=>∃ (p dx:Addr)(i:Int)(y:V),vs=[.ref p,y]/\H p=some (.ins C dx (eI i)) /\
 ((∃ q dy j,y = .ref q/\H q=some (.ins C dy (eI j))/\Q (.bl (decide (i=j))) H)\/∃ T,Th H y T/\Q (.bl false) H)
noncomputable def rF (C:Addr):Sp:=λvs H Q _=>∃ (p dx:Addr)(i:Int),vs=[.ref p]/\H p=some (.ins C dx (eI i))/\Q (.int i) H
noncomputable def cD:V->Bool
 | .int i=>decide (0<=i)&&decide (i < 60)
 | _=>false
noncomputable def spPlace:Sp:=λvs H Q _=>∃ x T,vs=[x]/\Th H x T/\Q (.bl (cD x)) H
variable {P:Program}{w:World}{K:PySem.W.Frag}{mg:Str->Option Value}{base:Heap}
theorem Ep:FnScope ["self","other"] ["self","other"] (aq ET):=dX (by decide +kernel)
theorem CM {f C:Addr}{fd:FuncData}(F:Fun K "__eq__" "Field.__eq__" ET f fd)(c:FieldK K mg C)(n:Nones mg):FnOk P w K mg base (aV P w) 1 f fd ["self","other"] (BY C):=by
 refine F.okN Ep (λvs H Q E h=>?_) (λFb A outer s H vs Q E hr h=>?_)
 ·obtain ⟨p,dx,i,y,rfl,_⟩:=h;rfl
 ·obtain ⟨p,dx,i,y,rfl,hp,h⟩:=h
  refine ⟨_,ar (az (cE (aF aR (by rfl) n.isi (by rfl) (aO (pv 1) (aO (cL (by rfl) c.mgC (show aC (.ref C) (.ref C) from rfl)) af)))
   (dC (bZ d8 (bK (pv 0) rfl) (bK (pv 1) rfl) (aI _))))),?_⟩
  rcases h with ⟨q,dy,j,rfl,hq,z⟩ | ⟨T,th,z⟩
  ·refine ⟨_,rfl,.ref q,.ref C,_,_,_,rfl,rfl,c.ty hq,c.is,_,rfl,?_⟩;refine cb ?_;refine ⟨_,rfl,p,C,dx,_,_,rfl,hp,c.cl,c.nP,rfl,_,rfl,q,C,dy,_,_,rfl,hq,c.cl,c.nP,rfl,rfl,?_⟩
   have e:decide (V.int i=V.int j)=decide (i=j):=by simp
   rw [e];exact z
  ·exact ⟨_,rfl,y,.ref C,_,_,_,rfl,rfl,th.ty,c.no th,_,rfl,bF z⟩
theorem xw:FnScope ["self"] ["self"] (aq rN):=dX (by decide +kernel)
theorem xy {f C:Addr}{fd:FuncData}(F:Fun K "prime" "Field.prime" rN f fd)(c:FieldK K mg C):FnOk P w K mg base (aV P w) 1 f fd ["self"] (rF C):=by
 refine F.okN xw (λvs H Q E h=>?_) (λFb A outer s H vs Q E hr h=>?_)
 ·obtain ⟨p,dx,i,rfl,_⟩:=h;rfl
 ·obtain ⟨p,dx,i,rfl,hp,q⟩:=h;exact ⟨_,ar (az (bK (pv 0) rfl)),_,rfl,p,C,dx,_,_,rfl,hp,c.cl,c.nP,rfl,q⟩
theorem zA:FnScope ["thing"] ["thing"] (aq wo):=dX (by decide +kernel)
theorem yo {f fw:Addr}{fd HZ:FuncData}{tM:Tok}(F:Fun K "is_place" "is_place" wo f fd)(Zh:mg "MOST_PLACES"=some (.int 60 tM))
 (FW:FnOk P w K mg base (aV P w) 1 fw HZ ["thing"] spWhole)(bW:L2.aA K HZ ["thing"] [])(mW:mg "is_whole"=some (.ref fw))(kW:keepIn K (.ref fw)=true):FnOk P w K mg base (aV P w) 2 f fd ["thing"] spPlace:=by
 refine F.okN zA (λvs H Q E h=>?_) (λFb A outer s H vs Q E hr h=>?_)
 ·obtain ⟨x,T,rfl,_⟩:=h;rfl
 ·obtain ⟨x,T,rfl,th,q⟩:=h;have FF:Room 1 _:=hr.mono (by decide);refine ⟨_,ar (az (cE (ax FW FF (by rfl) mW kW bW .nil ae (@ai _ _ _ _ _ (pv 0) af rfl)) (dC (kf wB jJ aj (pv 0) (cL (by rfl) Zh (show aC (.int 60) (.int 60 tM) from ⟨_,rfl⟩)))))),?_⟩;refine ⟨_,rfl,x,T,rfl,th,_,rfl,?_⟩
  cases e:dt x with
  | false =>
    have z:cD x=false:=by cases x <;> first | rfl | cases e
    rw [z] at q;exact bF q
  | true =>
    have z1:∃ i,x = .int i:=by cases x <;> first | exact ⟨_,rfl⟩ | cases e
    obtain ⟨i,rfl⟩:=z1;refine cb ?_;refine ⟨_,rfl,_,_,rfl,rfl,_,rfl,?_⟩;refine cz (λh=>?_) (λh=>?_)
    ·refine ⟨_,_,rfl,rfl,?_⟩;have h':decide (0<=i)=true:=h
     have z:cD (.int i)=decide (i < 60):=by show (decide (0<=i)&&decide (i < 60))=_; rw [h',Bool.true_and]
     rw [z] at q;exact q
    ·have h':decide (0<=i)=false:=by simpa using h
     have z:cD (.int i)=false:=by show (decide (0<=i)&&decide (i < 60))=_; rw [h',Bool.false_and]
     rw [z] at q;exact q
end K06
namespace HT
open PySem PyProof.Rows
section
variable {prog:Program}{w:World}{A:Around}{E:Value->Shared->Prop}{s:Shared}
theorem fZ {t sl:Addr}{items:Array Value}{vl vu:Value}{lo hi:Option Int}{Q:Value->Shared->Prop}(ht:IsTup s.heap t items)(hs:s.heap.IsSliceOf sl vl vu .none)(pl:IsPart vl lo)(pu:IsPart vu hi)
 (h0:dY items.size 0 lo=0)(h1:dY items.size items.size hi=items.size)(h:Q (.ref t) s):wpAny (model prog w) A (getItem (.ref t) (.ref sl)) Q E s:=by
 obtain ⟨os,Ll,HK,M9⟩:=id hs;have Sn:s.TypeIs (.ref sl) "slice":=⟨os,Ll,HK⟩;unfold getItem
 try with_reducible refine wpAny_holding ?_
 first | refine wpAny_bind (wpAny_pure ?_) | skip
 refine wpAny_bind (wpAny_sequenceKey ht.typeIs (by decide) ?_)
 refine wpAny_bind (wpAny_callSpecial?_slot (name:=Str.ofString "__getitem__") ht.typeIs PyProof.Rows.slot_tuple_getitem
  (wpAny_call_entry PyProof.Rows.slot_tuple_getitem ht.typeIs entry_tuple_getitem ?_ (args_tuple_getitem _ _)))
 show wpAny _ _ (Builtin.Tuple.tupleItemsOf (.ref t) >>= _) _ _ s;refine wpAny_bind (tupleItemsOf_ ht ?_);refine wpAny_bind (wpAny_typeOf Sn ?_);rw [if_pos (by decide)];refine wpAny_bind (eQ hs pl pu ?_);rw [h0,h1]
 have GY:((((0:Nat):Int) == 0&&(1:Int) == 1&&(items.size - 0) == items.size)=true):=by simp
 dsimp only;rw [if_pos GY];show wpAny _ _ (Builtin.Tuple.tupleIsExact (.ref t) >>= _) _ _ s;refine wpAny_bind ?_;unfold Builtin.Tuple.tupleIsExact;refine wpAny_bind (wpAny_typeOf ht.typeIs (wpAny_pure ?_));rw [if_pos (by decide)];refine wpAny_bind (wpAny_rule ?_);exact wpAny_pure ⟨_,rfl,wpAny_pure h⟩
end
end HT
namespace L2
open PySem PySem.Spec PyProof.Rows PySem.W
variable {X:Cx}
noncomputable def DZ (K:Frag):V->Option Int->Option Int->Hp->VK->Prop:=λx lo hi H Q=>∃ a xs,x = .ref a/\a9 K H a xs/\(nU xs lo hi=xs->Q (.ref a) H)/\∀ p,H p=none->Q (.ref p) (upd H p (.tup (nU xs lo hi)))
theorem yJ:Ej X (DZ X.K):=by
 intro pins s σ H x v vl vu lo hi sl Q I rx hs pl pu h;obtain ⟨a,xs,rfl,hx,h1,h2⟩:=h
 by_cases hw:HT.dY xs.length 0 lo=0/\HT.dY xs.length xs.length hi=xs.length
 ·cases rx
  obtain ⟨its,r,ht,hz⟩:=I.tuple hx
  have hlen:its.toArray.size=xs.length:=by rw [List.size_toArray]; exact r.length.symm
  refine ⟨"tuple",_,PyProof.Rows.slot_tuple_getitem.lookup,ht.typeIs,?_⟩;refine HT.fZ ht hs pl pu (by rw [hlen]; exact hw.1) (by rw [hlen]; exact hw.2) ?_;refine ⟨.ref a,H,I,rfl,h1 ?_⟩;unfold nU;rw [hw.1,hw.2];simp
 ·exact Cn pins s σ H (.ref a) v vl vu lo hi sl Q I rx hs pl pu ⟨a,xs,rfl,hx,hw,h2⟩
end L2
namespace K06
open PySem L2 PySem.W
inductive PX (H:Hp):V->Option (List V)->Prop where
 | no {x:V}{T:String}:Th H x T->T ≠ "tuple"->PX H x none
 | tup {a:Addr}{xs:List V}:H a=some (.tup xs)->xs.length < 4000->(∀ y∈xs,∃ T,Th H y T)->PX H (.ref a) (some xs)
noncomputable def CG:V->V->Bool
 | .int a,.int b=>decide (a < b)
 | _,_=>false
noncomputable def iS (xs:List V):Bool:=(xs.zip (xs.drop 1)).all λp=>CG p.1 p.2
noncomputable def jj:Option (List V)->Bool
 | none=>false
 | some xs=>xs.all cD&&iS xs
noncomputable def spProduct:Sp:=λvs H Q _=>∃ x o,vs=[x]/\PX H x o/\∀ H',aB H H'->Q (.bl (jj o)) H'
theorem CT (xs:List V):nU xs (some 1) none=xs.drop 1:=by
 unfold nU HT.dY
 cases xs with
 | nil=>rfl
 | cons x xs=>simp
theorem vm:FnScope ["thing"] ["thing"] (aq gS):=dX (by decide +kernel)
theorem qe:∀ bs:List Bool,Paired DK (bs.map V.bl) bs
 | []=>.nil
 | b :: bs=>.cons rfl (qe bs)
variable {P:Program}{w:World}{K:PySem.W.Frag}{mg:Str->Option Value}{base:Heap}
theorem p5 {f fp:Addr}{fd Hm:FuncData}(F:Fun K "is_product" "is_product" gS f fd)(E8:mg "isinstance"=none)(Fc:mg "tuple"=none)(Hn:mg "all"=none)(Ie:mg "zip"=none)
 (FP:FnOk P w K mg base (aV P w) 2 fp Hm ["thing"] spPlace)(bP:L2.aA K Hm ["thing"] [])(mP:mg "is_place"=some (.ref fp))(kP:keepIn K (.ref fp)=true):FnOk P w K mg base (aV P w) 3 f fd ["thing"] spProduct:=by
 refine F.okN vm (λvs H Q E h=>?_) (λFb A outer s H vs Q E hr h=>?_)
 ·obtain ⟨x,o,rfl,_⟩:=h;rfl
 ·obtain ⟨x,o,rfl,px,q⟩:=h;have FQ:Room 2 _:=hr.mono (by decide)
  refine ⟨_,(ak (bg (PW.pt (gh (bU (b9 (aF aR (by rfl) E8 (by rfl) (@ai _ _ _ _ _ (pv 0) (@ai _ _ _ _ _ (dh (by rfl) Fc (by rfl) (show aC (.ty "tuple") (.type "tuple") from rfl)) af rfl) rfl)))) (fL (bU (b9 (aF (oH rfl) (by rfl) Hn (by rfl) (@ai _ _ _ _ _ (eX (N:=["place"]) (nl:=1) (js:=[]) (osc:=aq gS) ⟨rfl,rfl,by decide +kernel,by decide +kernel,by decide +kernel,rfl,.nil,by decide +kernel⟩ rfl
   (Ck (pv 0))
   (λC fp s H=>aG (i:=0) (by show (["place"]:List Str).Nodup; decide +kernel) rfl (Or.inl rfl) (Or.inr rfl))
   (λC fp s H=>d6)
   (λC fp s H=>(ax FP FQ (by rfl) mP kP bP .nil ae (@ai _ _ _ _ _ (pv 0) af rfl)))) af rfl))))))) (ar (az cU)) aD)
   (ar (az (aF (oH rfl) (by rfl) Hn (by rfl) (@ai _ _ _ _ _ (eX (g:=i6 K 2 (cq (bO 0) (cq (bO 1) gNil))) (N:=["place","later"]) (nl:=2) (js:=[]) (osc:=aq gS) ⟨rfl,rfl,by decide +kernel,by decide +kernel,by decide +kernel,rfl,.nil,by decide +kernel⟩ rfl
    (BR (pv 0) (yx yJ (pv 0) (yG aj) yT) (by rfl) Ie)
    (λC fp s H=>(cZ (X:=cp _ ["place","later"] _ C fp s H) rfl (aE (aG (X:=cp _ ["place","later"] _ C fp s H) (i:=0) (by show (["place","later"]:List Str).Nodup; decide +kernel) rfl (Or.inl rfl) (Or.inr rfl)) (aE (aG (X:=cp _ ["place","later"] _ C fp s H) (i:=1) (by show (["place","later"]:List Str).Nodup; decide +kernel) rfl (Or.inl rfl) (Or.inr rfl)) cj))))
    (λC fp s H=>d6)
    (λC fp s H=>(@bZ _ _ _ _ _ _ _ _ jJ (pv 0) (pv 1) (aI _)))) af rfl))))),?_⟩
  cases px with
  | @no x T th ne =>
    refine ⟨_,rfl,x,.ty "tuple",_,_,_,rfl,rfl,th.ty,th.isTup,_,rfl,?_⟩;rw [decide_eq_false ne];exact cb (cb (q _ (aB.refl _)))
  | @tup a xs ha hl Zi =>
    refine ⟨_,rfl,.ref a,.ty "tuple",_,_,_,rfl,rfl,.of (.tup ha),rfl,_,rfl,bF ?_⟩;have WO:∀ n,n<=xs.length->n < sizeLine:=λn hn=>Nat.lt_of_le_of_lt hn (Nat.lt_trans hl (by decide));refine ⟨_,rfl,a,rfl,⟨xs,a9.of ha⟩,?_⟩;refine ⟨λi m ys σ' H'=>m=xs.length - i/\i<=xs.length/\ys=((xs.take i).map cD).map V.bl/\H=H'/\∃ o,σ'=[o],⟨xs.length,by simp,Nat.zero_le _,by simp,rfl,none,rfl⟩,?_⟩;rintro i m ys σ' H' ⟨rfl,hi,rfl,rfl,o,rfl⟩;refine ⟨WO _ (by simp; omega),?_⟩
    by_cases Fd:i < xs.length
    ·refine .inr ⟨⟨xs,xs[i],a9.of ha,by simp [Fd]⟩,λy H2 hy=>?_⟩;obtain ⟨rfl,hy⟩:=hy;have ey:=hy xs (a9.of ha);obtain ⟨T,th⟩:=Zi y (List.mem_of_getElem? ey);dsimp only [tYes,bO];refine cb ⟨_,rfl,y,T,rfl,th,xs.length - (i + 1),by omega,rfl,Fd,?_,rfl,_,rfl⟩
     have e2:xs.take (i + 1)=xs.take i++[y]:=by
      rw [List.take_add_one,ey]; rfl
     rw [e2];simp
    ·have ei:i=xs.length:=by omega
     subst ei;refine .inl ⟨⟨xs,a9.of ha,Nat.le_refl _⟩,λD hD=>?_⟩;rw [List.take_length];refine ⟨D,_,xs.map cD,rfl,bu.of ah,qe _,_,rfl,?_⟩;have sD:aB H (upd H D (.lst ((xs.map cD).map V.bl))):=av hD
     cases hp:(xs.map cD).all id with
     | false =>
       have z:jj (some xs)=false:=by
        show (xs.all cD&&iS xs)=_
        have:xs.all cD=false:=by rw [<-hp,List.all_map]; rfl
        rw [this,Bool.false_and]
       rw [z] at q;exact cb (q _ sD)
     | true =>
       refine bF ?_
       have z:jj (some xs)=iS xs:=by
        show (xs.all cD&&iS xs)=_
        have:xs.all cD=true:=by rw [<-hp,List.all_map]; rfl
        rw [this,Bool.true_and]
       rw [z] at q;generalize upd H D (.lst ((xs.map cD).map V.bl))=H1 at sD |-;have Ho:=sD _ _ ha
       have hint:∀ y∈xs,∃ n,y=V.int n:=λy hy=>by
        have:cD y=true:=List.all_eq_true.mp hp _ (List.mem_map_of_mem hy)
        cases y <;> first | exact ⟨_,rfl⟩ | cases this
       have key:∀ (b:Addr)(H2:Hp),aB H H2->H2 a=some (.tup xs)->H2 b=some (.tup (xs.drop 1)) →
        ∃ W:Nat->Nat->List V->St->Hp->Prop,(∃ m,W 0 m [] [none,none] H2)/\lA (DI K a b) (i6 K 2 (cq (bO 0) (cq (bO 1) gNil))) tYes (oh (v8 λi j=>V.bl (decide (i < j))) (gH 0) (gH 1)) W
          λys H'=>∀ D,H' D=none->∃ l zs bs,[V.ref D]=[V.ref l]/\bu K (upd H' D (.lst ys)) l zs/\Paired DK zs bs/\Q (.bl (bs.all id)) (upd H' D (.lst ys)):=by
        intro b H2 s2 Zj Zk;refine ⟨λi m ys σ' H'=>m=(xs.drop 1).length - i/\i<=(xs.drop 1).length/\ys=(((xs.zip (xs.drop 1)).take i).map λp=>CG p.1 p.2).map V.bl/\aB H2 H'/\∃ o1 o2,σ'=[o1,o2],⟨(xs.drop 1).length,by simp,Nat.zero_le _,by simp,aB.refl _,none,none,rfl⟩,?_⟩;rintro i m ys σ' H' ⟨rfl,hi,rfl,sH,o1,o2,rfl⟩;have NC:=sH _ _ Zj;have Fq:=sH _ _ Zk;refine ⟨WO _ (by simp; omega),?_⟩
        by_cases Fd:i < (xs.drop 1).length
        ·have Ig:i < xs.length:=by rw [List.length_drop] at Fd; omega
         refine .inr ⟨⟨xs,xs.drop 1,xs[i],(xs.drop 1)[i],a9.of NC,a9.of Fq,by simp [Ig],by rw [List.getElem?_eq_getElem Fd]⟩,λv H3 hv=>?_⟩;obtain ⟨T,x,y,hx,hy,hT,rfl,rfl⟩:=hv;have ex:=hx xs (a9.of NC);have ey:=hy (xs.drop 1) (a9.of Fq);obtain ⟨n,rfl⟩:=hint x (List.mem_of_getElem? ex);obtain ⟨k,rfl⟩:=hint y (List.mem_of_mem_drop (List.mem_of_getElem? ey));refine ⟨T,_,rfl,a9.of ah,rfl,_,_,rfl,_,_,rfl,rfl,?_⟩;dsimp only [tYes];refine cb ⟨_,rfl,_,rfl,n,k,rfl,rfl,(xs.drop 1).length - (i + 1),by omega,rfl,Fd,?_,λc u e=>?_,_,_,rfl⟩
         ·have ez:(xs.zip (xs.drop 1))[i]?=some (V.int n,V.int k):=by
           rw [List.getElem?_zip_eq_some];exact ⟨ex,ey⟩
          have e2:(xs.zip (xs.drop 1)).take (i + 1)=(xs.zip (xs.drop 1)).take i++[(V.int n,V.int k)]:=by
           rw [List.take_add_one,ez]; rfl
          rw [e2];simp [CG]
         ·rw [ao (au (sH _ _ e) hT)];exact sH _ _ e
        ·have ei:i=(xs.drop 1).length:=by omega
         subst ei;refine .inl ⟨⟨xs,xs.drop 1,a9.of NC,a9.of Fq,.inr (Nat.le_refl _)⟩,λD' ND=>?_⟩
         have et:(xs.zip (xs.drop 1)).take (xs.drop 1).length=xs.zip (xs.drop 1):=by
          apply List.take_of_length_le;rw [List.length_zip];exact Nat.min_le_right _ _
         rw [et];refine ⟨D',_,(xs.zip (xs.drop 1)).map λp=>CG p.1 p.2,rfl,bu.of ah,qe _,?_⟩
         have er:((xs.zip (xs.drop 1)).map λp=>CG p.1 p.2).all id=iS xs:=by rw [List.all_map]; rfl
         rw [er];refine q _ λc u e=>?_;have e1:=sH _ _ (s2 _ _ e);rw [ao (au e1 ND)];exact e1
       refine ⟨_,rfl,_,rfl,1,rfl,a,xs,rfl,a9.of Ho,λe=>?_,λp WQ=>?_⟩
       ·rw [CT] at e;exact ⟨a,a,xs,xs.drop 1,rfl,a9.of Ho,a9.of (by rw [e]; exact Ho),key a H1 sD Ho (by rw [e]; exact Ho)⟩
       ·rw [CT];have np:a≠p:=au Ho WQ;exact ⟨a,p,xs,xs.drop 1,rfl,a9.of (by rw [ao np]; exact Ho),a9.of ah,key p _ (λc u e=>by rw [ao (au (sD _ _ e) WQ)]; exact sD _ _ e) (by rw [ao np]; exact Ho) ah⟩
noncomputable abbrev Ao:Stmt:=(aZ 20)
theorem PX.same {H H':Hp}{x:V}{o:Option (List V)}(h:PX H x o)(s:aB H H'):PX H' x o:=by
 cases h with
 | no th n=>exact .no (th.same s) n
 | tup e l h=>exact .tup (s _ _ e) l λy hy=>let ⟨T,t⟩:=h y hy; ⟨T,t.same s⟩
inductive TmX (p:Int)(H:Hp):V->Bool->Prop where
 | no {x:V}{T:String}:Th H x T->T ≠ "tuple"->TmX p H x false
 | odd {a:Addr}{xs:List V}:H a=some (.tup xs)->xs.length≠2->TmX p H (.ref a) false
 | two {a:Addr}{y z:V}{o:Option (List V)}{o2:Option (V × V)}:H a=some (.tup [y,z])->PX H y o->TX H z o2->TmX p H (.ref a) (jj o&&isN p o2)
theorem TmX.same {p:Int}{H H':Hp}{x:V}{b:Bool}(h:TmX p H x b)(s:aB H H'):TmX p H' x b:=by
 cases h with
 | no th n=>exact .no (th.same s) n
 | odd e n=>exact .odd (s _ _ e) n
 | two e h1 h2=>exact .two (s _ _ e) (h1.same s) (h2.same s)
noncomputable def vU (C:Addr):Sp:=λvs H Q _=>∃ (s dx:Addr)(p:Int)(x:V)(b:Bool),vs=[.ref s,x]/\H s=some (.ins C dx (eI p))/\FP p/\TmX p H x b/\∀ H',aB H H'->Q (.bl b) H'
theorem AV:FnScope ["field","thing"] ["field","thing"] (aq Ao):=dX (by decide +kernel)
theorem zH {f fp fi C:Addr}{fd Hm NG:FuncData}(F:Fun K "is_term" "is_term" Ao f fd)(c:FieldK K mg C)(E8:mg "isinstance"=none)(Fc:mg "tuple"=none)(m_len:mg "len"=none)
 (Zl:FnOk P w K mg base (aV P w) 3 fp Hm ["thing"] spProduct)(bP:L2.aA K Hm ["thing"] [])(mP:mg "is_product"=some (.ref fp))(kP:keepIn K (.ref fp)=true)
 (FI:FnOk P w K mg base (aV P w) 2 fi NG ["self","thing"] (gJ C))(bI:L2.aA K NG ["self","thing"] [])(mI:L2.Meth K C "is_number" fi):FnOk P w K mg base (aV P w) 4 f fd ["field","thing"] (vU C):=by
 refine F.okN AV (λvs H Q E h=>?_) (λFb A outer s H vs Q E hr h=>?_)
 ·obtain ⟨s,dx,p,x,b,rfl,_⟩:=h;rfl
 ·obtain ⟨s0,dx,p,x,b,rfl,hs,hp,tx,q⟩:=h;have Gg:Room 3 _:=hr.mono (by decide);have FQ:Room 2 _:=hr.mono (by decide)
  refine ⟨_,ar (az (cE (aF aR (by rfl) E8 (by rfl) (@ai _ _ _ _ _ (pv 1) (@ai _ _ _ _ _ (dh (by rfl) Fc (by rfl) (show aC (.ty "tuple") (.type "tuple") from rfl)) af rfl) rfl))
   (cE (@bZ _ _ _ _ _ _ _ _ d8 (aF ck (by rfl) m_len PySem.boot_len (@ai _ _ _ _ _ (pv 1) af rfl)) aj (aI _))
   (cE (ax Zl Gg (by rfl) mP kP bP .nil ae (@ai _ _ _ _ _ (@aS _ _ _ _ _ _ _ a7 (pv 1) aj (λ_ _=>rfl)) af rfl))
   (dC (aX (pv 0) c.cl mI FI FQ bI .nil ae (@ai _ _ _ _ _ (@aS _ _ _ _ _ _ _ a7 (pv 1) aj (λ_ _=>rfl)) af rfl))))))),?_⟩
  cases tx with
  | @no x T th ne =>
    refine ⟨_,rfl,x,.ty "tuple",_,_,_,rfl,rfl,th.ty,th.isTup,_,rfl,?_⟩;rw [decide_eq_false ne];exact bF (q _ (aB.refl _))
  | @odd a xs ha hl =>
    refine ⟨_,rfl,.ref a,.ty "tuple",_,_,_,rfl,rfl,.of (.tup ha),rfl,_,rfl,cb ?_⟩;refine ⟨_,rfl,a,_,rfl,.inr (a9.of ha),rfl,_,rfl,?_⟩;refine cz (λh=>absurd h (by simp; omega)) (λh=>?_);exact q _ (aB.refl _)
  | @two a y z o o2 ha hy hz =>
    refine ⟨_,rfl,.ref a,.ty "tuple",_,_,_,rfl,rfl,.of (.tup ha),rfl,_,rfl,cb ?_⟩;refine ⟨_,rfl,a,_,rfl,.inr (a9.of ha),rfl,_,rfl,cb ?_⟩;refine ⟨_,rfl,a,_,0,y,rfl,rfl,a9.of ha,rfl,y,o,rfl,hy,λH' sH=>⟨_,rfl,?_⟩⟩;have JT:=sH _ _ hs;have NC:=sH _ _ ha
    cases e:jj o with
    | false =>
      rw [e,Bool.false_and] at q;exact bF (q _ sH)
    | true =>
      rw [e,Bool.true_and] at q;refine cb ⟨_,rfl,s0,dx,_,rfl,JT,rfl,_,rfl,a,_,1,z,rfl,rfl,a9.of NC,rfl,s0,dx,p,z,o2,rfl,JT,hp,hz.same sH,q _ sH⟩
noncomputable abbrev pT:Stmt:=(aZ 21)
noncomputable abbrev pb:Stmt:=(aZ 22)
noncomputable def l5 (C:Addr):Sp:=λvs H Q _=>∃ (s dx:Addr)(p:Int)(x:V),vs=[.ref s,x]/\H s=some (.ins C dx (eI p))/\FP p /\
 ((x = .non/\∀ l,H l=none->Q (.ref l) (upd H l (.lst [])))\/∃ l ys,x = .ref l/\H l=some (.lst ys)/\ys.length < 4000/\(∀ y∈ys,TmX p H y true)/\∀ H',aB H H'->Q (.ref l) H')
noncomputable def spPlaceOf:Sp:=λvs H Q _=>∃ (a b:Addr)(z:V)(xs:List V),vs=[.ref a]/\H a=some (.tup [.ref b,z])/\H b=some (.tup xs)/\∀ t,H t=none->Q (.ref t) (upd H t (.tup [.int xs.length,.ref b]))
theorem iI:FnScope ["field","terms","number","thing"] ["field","terms"] (aq pT):=dX (by decide +kernel)
theorem uV:FnScope ["term"] ["term"] (aq pb):=dX (by decide +kernel)
theorem qv {f:Addr}{fd:FuncData}(F:Fun K "place_of_term" "place_of_term" pb f fd)(m_len:mg "len"=none):FnOk P w K mg base (aV P w) 1 f fd ["term"] spPlaceOf:=by
 refine F.okN uV (λvs H Q E h=>?_) (λFb A outer s H vs Q E hr h=>?_)
 ·obtain ⟨a,b,z,xs,rfl,_⟩:=h;rfl
 ·obtain ⟨a,b,z,xs,rfl,ha,hb,q⟩:=h;refine ⟨_,(ar (az (@bV _ _ _ _ _ (@ai _ _ _ _ _ (aF ck (by rfl) m_len PySem.boot_len (@ai _ _ _ _ _ (@aS _ _ _ _ _ _ _ a7 (pv 0) aj (λ_ _=>rfl)) af rfl)) (@ai _ _ _ _ _ (@aS _ _ _ _ _ _ _ a7 (pv 0) aj (λ_ _=>rfl)) af rfl) rfl)))),?_⟩;refine ⟨_,rfl,a,_,0,_,rfl,rfl,a9.of ha,rfl,b,xs,rfl,.inr (a9.of hb),_,rfl,a,_,0,_,rfl,rfl,a9.of ha,rfl,kZ,λt ht=>q t ht⟩
theorem qC {f ft C:Addr}{fd F2:FuncData}(F:Fun K "checked_terms" "checked_terms" pT f fd)(E8:mg "isinstance"=none)(FH:mg "list"=none)(Fv:mg "enumerate"=none)
 (FT:FnOk P w K mg base (aV P w) 4 ft F2 ["field","thing"] (vU C))(bT:L2.aA K F2 ["field","thing"] [])(mT:mg "is_term"=some (.ref ft))(kT:keepIn K (.ref ft)=true):FnOk P w K mg base (aV P w) 5 f fd ["field","terms"] (l5 C):=by
 refine F.okN iI (λvs H Q E h=>?_) (λFb A outer s H vs Q E hr h=>?_)
 ·obtain ⟨s,dx,p,x,rfl,_⟩:=h;rfl
 ·obtain ⟨s0,dx,p,x,rfl,hs,hp,h⟩:=h;have GP:Room 4 _:=hr.mono (by decide)
  refine ⟨_,(ak (bg (@aQ _ _ _ _ _ _ _ _ BP (pv 1) qX (aI _)) (ar (az (@cW _ _ _ _ af))) aD)
   (ak (bg (bU (b9 (aF aR (by rfl) E8 (by rfl) (@ai _ _ _ _ _ (pv 1) (@ai _ _ _ _ _ (dh (by rfl) FH (by rfl) (show aC (.ty "list") (.type "list") from rfl)) af rfl) rfl)))) (ar (pK)) aD)
   (ak (gB PassesOwn.never rfl (zg (pv 1) (by rfl) Fv) (cZ rfl (aE (aG (i:=2) iI.nd rfl (Or.inl rfl)) (aE (aG (i:=3) iI.nd rfl (Or.inl rfl)) cj)))
   (ar (bg (bU (b9 (ax FT GP (by rfl) mT kT bT .nil ae (@ai _ _ _ _ _ (pv 0) (@ai _ _ _ _ _ (pv 3) af rfl) rfl)))) (ar (pK)) aD)))
   (ar (az (pv 1)))))),?_⟩
  rcases h with ⟨rfl,q⟩ | ⟨l,ys,rfl,hl,hlen,Zm,q⟩
  ·refine ⟨_,rfl,rfl,_,rfl,?_⟩;exact cb ⟨Nat.zero_le _,λl hl=>q l hl⟩
  ·refine ⟨_,rfl,rfl,_,rfl,bF ?_⟩;refine ⟨_,rfl,.ref l,.ty "list",_,_,_,rfl,rfl,.of (.lst hl),rfl,_,rfl,bF ?_⟩;refine ⟨_,rfl,l,ys,rfl,bu.of hl,?_⟩;refine ⟨λi m σ' H'=>m=ys.length - i/\i<=ys.length/\aB H H'/\∃ o1 o2,σ'=[some (.ref s0),some (.ref l),o1,o2],⟨ys.length,by simp,Nat.zero_le _,aB.refl _,none,none,rfl⟩,?_⟩;rintro i m σ' H' ⟨rfl,hi,sH,o1,o2,rfl⟩;have Gu:=sH _ _ hl
   by_cases Fd:i < ys.length
   ·refine .inr ⟨⟨ys,ys[i],bu.of Gu,by simp [Fd]⟩,λσ' H'=>i + 1<=ys.length/\aB H H'/\∃ o1 o2,σ'=[some (.ref s0),some (.ref l),o1,o2],?_,λv H2 hv=>?_⟩
    ·rintro σ' H' ⟨h1,h2,h3⟩;exact ⟨ys.length - (i + 1),by omega,rfl,h1,h2,h3⟩
    ·obtain ⟨T,y,hy,hT,rfl,rfl⟩:=hv;have ey:=hy ys (bu.of Gu)
     have s2:aB H (upd H' T (.tup [.int i,y])):=λc u e=>by
      rw [ao (au (sH _ _ e) hT)];exact sH _ _ e
     have ty:=(Zm y (List.mem_of_getElem? ey)).same s2;refine ⟨T,_,rfl,a9.of ah,rfl,_,_,rfl,_,_,rfl,rfl,?_⟩;refine ⟨_,rfl,_,rfl,s0,dx,p,y,true,rfl,s2 _ _ hs,hp,ty,λH3 s3=>⟨_,rfl,bF ?_⟩⟩;exact ⟨Fd,λc u e=>s3 _ _ (s2 _ _ e),_,_,rfl⟩
   ·refine .inl ⟨⟨ys,bu.of Gu,by omega⟩,?_⟩;exact ⟨_,rfl,q _ sH⟩
end K06
namespace Srt
open PySem PySem.W PyProof.Rows
structure Pm (n:Nat)(r:Nat->Nat)(p:Array Nat):Prop where
 size:p.size=n
 lt:∀ k,k < n->p.getD k 0 < n
 ne:∀ k l,k < n->l < n->k≠l->r (p.getD k 0)≠r (p.getD l 0)
 perm:p.Perm (List.range n).toArray
section
variable {n:Nat}{r:Nat->Nat}
theorem Pm.nq {n:Nat}{r:Nat->Nat}{p:Array Nat}(P:Pm n r p)(k l:Nat)(hk:k < n)(hl:l < n)(h:k≠l):p.getD k 0≠p.getD l 0:=λz=>P.ne k l hk hl h (by rw [z])
theorem getD_some {p:Array Nat}{k:Nat}(h:k < p.size):p[k]?=some (p.getD k 0):=by simp [Array.getD,h]
theorem oX (inj:∀ i j,i < n->j < n->i≠j->r i≠r j){p:Array Nat}(hp:p.Perm (List.range n).toArray):Pm n r p:=by
 have hl:p.toList.Perm (List.range n):=by simpa using hp.toList
 have hs:p.size=n:=by rw [<-Array.length_toList,hl.length_eq,List.length_range]
 have Fd:∀ k,k < n->p.getD k 0 < n:=λk hk=>by
  have hm:p.getD k 0∈p.toList:=by
   rw [show p.getD k 0=p[k]'(by omega) by simp [Array.getD,hs,hk]];exact Array.mem_toList_iff.mpr (Array.getElem_mem _)
  exact List.mem_range.mp (hl.mem_iff.mp hm)
 refine ⟨hs,Fd,λk l hk Gu Ft=>inj _ _ (Fd k hk) (Fd l Gu) λe=>Ft ?_,hp⟩;have nd:p.toList.Nodup:=hl.nodup_iff.mpr List.nodup_range
 have e1:p.toList[k]'(by simp; omega)=p.toList[l]'(by simp; omega):=by
  rw [show p.getD k 0=p[k]'(by omega) by simp [Array.getD,hs,hk],show p.getD l 0=p[l]'(by omega) by simp [Array.getD,hs,Gu]] at e;simpa using e
 have pw:=List.pairwise_iff_getElem.mp (show p.toList.Pairwise (· ≠ ·) from nd)
 rcases Nat.lt_trichotomy k l with z | z | z
 ·exact absurd e1 (pw k l _ _ z)
 ·exact z
 ·exact absurd e1.symm (pw l k _ _ z)
noncomputable def Up (r:Nat->Nat)(p:Array Nat)(m:Nat):Prop:=∀ i j,i < j->j < m->r (p.getD i 0) < r (p.getD j 0)
noncomputable def Dn (r:Nat->Nat)(p:Array Nat)(m:Nat):Prop:=∀ i j,i < j->j < m->r (p.getD j 0) < r (p.getD i 0)
theorem Up.succ {p:Array Nat}{m:Nat}(h:Up r p m)(h1:1<=m)(e:r (p.getD (m - 1) 0) < r (p.getD m 0)):Up r p (m + 1):=λi j GN hj=>by
 by_cases z:j=m
 ·subst z
  by_cases z2:i=j - 1
  ·subst z2; exact e
  ·exact Nat.lt_trans (h i (j - 1) (by omega) (by omega)) e
 ·exact h i j GN (by omega)
theorem Dn.succ {p:Array Nat}{m:Nat}(h:Dn r p m)(h1:1<=m)(e:r (p.getD m 0) < r (p.getD (m - 1) 0)):Dn r p (m + 1):=λi j GN hj=>by
 by_cases z:j=m
 ·subst z
  by_cases z2:i=j - 1
  ·subst z2; exact e
  ·exact Nat.lt_trans e (h i (j - 1) (by omega) (by omega))
 ·exact h i j GN (by omega)
theorem sd {p:Array Nat}{m k:Nat}(hm:m<=p.size)(hk:k < p.size):(kas_rev p 0 m).getD k 0=if k < m then p.getD (m - 1 - k) 0 else p.getD k 0:=by
 have e:=getElem?_mirror_all (xs:=p) (i:=0) hm k;have hs:(kas_rev p 0 m).size=p.size:=mirror_size _ _ _ _;have e2:(kas_rev p 0 m)[k]?=some ((kas_rev p 0 m).getD k 0):=getD_some (by rw [hs]; exact hk)
 have e3:(kas_rev p 0 m)[k]?=if 0<=k/\k < m then p[0 + m - 1 - k]? else p[k]?:=e
 rw [e2] at e3
 by_cases h:k < m
 ·rw [if_pos ⟨Nat.zero_le _,h⟩,show 0 + m - 1 - k=m - 1 - k by omega,getD_some (by omega)] at e3;rw [if_pos h];exact Option.some.inj e3
 ·rw [if_neg (λz=>h z.2),getD_some hk] at e3;rw [if_neg h];exact Option.some.inj e3
theorem Dn.rev {p:Array Nat}{m:Nat}(h:Dn r p m)(hm:m<=p.size):Up r (kas_rev p 0 m) m:=λi j GN hj=>by
 rw [sd hm (by omega),sd hm (by omega),if_pos (by omega),if_pos hj];exact h _ _ (by omega) (by omega)
variable {cmp:Nat->Nat->(Bool->Shared->Prop)->Shared->Prop}{s:Shared}
theorem rm (hc:∀ i j C,i < n->j < n->i≠j->C (decide (r i < r j)) s->cmp i j C s){p:Array Nat}(P:Pm n r p){Q:Nat->Shared->Prop}:∀ (f m:Nat),1<=m->m + f=n->Up r p m →
 (∀ m',m<=m'->m'<=n->Up r p m'->(m' < n->r (p.getD m' 0) < r (p.getD (m' - 1) 0))->Q m' s)->(kas_asc p f m).kasWp cmp Q s
 | 0,m,h1,hm,hu,hQ=>hQ m (Nat.le_refl _) (by omega) hu λh=>by omega
 | f + 1,m,h1,hm,hu,hQ=>by
   refine hc _ _ _ (P.lt m (by omega)) (P.lt (m - 1) (by omega)) (P.nq m (m - 1) (by omega) (by omega) (by omega)) ?_;show ((if decide (r (p.getD m 0) < r (p.getD (m - 1) 0))=true then KasT.ret m else kas_asc p f (m + 1)).kasWp cmp Q s)
   by_cases h:r (p.getD m 0) < r (p.getD (m - 1) 0)
   ·rw [if_pos (decide_eq_true h)];exact hQ m (Nat.le_refl _) (by omega) hu λ_=>h
   ·rw [if_neg (by simpa using h)];have ne:=P.ne m (m - 1) (by omega) (by omega) (by omega);exact rm hc P f (m + 1) (by omega) (by omega) (hu.succ h1 (by omega)) λm' h2=>hQ m' (by omega)
theorem tw (hc:∀ i j C,i < n->j < n->i≠j->C (decide (r i < r j)) s->cmp i j C s){p:Array Nat}(P:Pm n r p){Q:Array Nat × Nat × Nat->Shared->Prop}:∀ (f m:Nat),1<=m->m + f=n->Dn r p m →
 (∀ m',m<=m'->m'<=n->Dn r p m'->Q (p,m',0) s)->(kas_desc f p m 0).kasWp cmp Q s
 | 0,m,h1,hm,hu,hQ=>hQ m (Nat.le_refl _) (by omega) hu
 | f + 1,m,h1,hm,hu,hQ=>by
   refine hc _ _ _ (P.lt m (by omega)) (P.lt (m - 1) (by omega)) (P.nq m (m - 1) (by omega) (by omega) (by omega)) ?_
   by_cases h:r (p.getD m 0) < r (p.getD (m - 1) 0)
   ·rw [decide_eq_true h];exact tw hc P f (m + 1) (by omega) (by omega) (hu.succ h1 h) λm' h2=>hQ m' (by omega)
   ·rw [decide_eq_false h];refine hc _ _ _ (P.lt (m - 1) (by omega)) (P.lt m (by omega)) (P.nq (m - 1) m (by omega) (by omega) (by omega)) ?_;have ne:=P.ne m (m - 1) (by omega) (by omega) (by omega);rw [decide_eq_true (show r (p.getD (m - 1) 0) < r (p.getD m 0) by omega)];exact hQ m (Nat.le_refl _) (by omega) hu
theorem xk (inj:∀ i j,i < n->j < n->i≠j->r i≠r j)(hc:∀ i j C,i < n->j < n->i≠j->C (decide (r i < r j)) s->cmp i j C s){p:Array Nat}(P:Pm n r p){Q:Nat × Array Nat->Shared->Prop}{m:Nat}(h1:1<=m)(hm:m<=n)(hd:Dn r p m)
 (hQ:∀ m' p',m'<=n->1<=m'->Pm n r p'->Up r p' m'->Q (m',p') s):(kas_tail3 m n p).kasWp cmp Q s:=by
 unfold kas_tail3;rw [KasT.kasWp_bind];have P':Pm n r (kas_rev p 0 m):=oX inj ((mirror_perm _ _ _ _).trans P.perm);exact rm hc P' (n - m) m h1 (by omega) (hd.rev (by rw [P.size]; exact hm)) λm' h2 h3 h4 _=>hQ m' _ h3 (by omega) P' h4
theorem xP (inj:∀ i j,i < n->j < n->i≠j->r i≠r j)(hc:∀ i j C,i < n->j < n->i≠j->C (decide (r i < r j)) s->cmp i j C s)(h0:1<=n){p:Array Nat}(P:Pm n r p){Q:Nat × Array Nat->Shared->Prop}
 (hQ:∀ m' p',m'<=n->1<=m'->Pm n r p'->Up r p' m'->Q (m',p') s):(kas_count n p).kasWp cmp Q s:=by
 unfold kas_count;rw [KasT.kasWp_bind];refine rm hc P (n - 1) 1 (Nat.le_refl _) (by omega) (λi j GN hj=>by omega) λm h1 h2 h3 h4=>?_
 by_cases e:m=n
 ·subst e;rw [if_pos (by simp)];exact hQ _ _ (Nat.le_refl _) h1 P h3
 ·rw [if_neg (by simpa using e)]
  by_cases h5:m > 1
  ·rw [if_pos h5];refine hc _ _ _ (P.lt 0 (by omega)) (P.lt (m - 1) (by omega)) (P.nq 0 (m - 1) (by omega) (by omega) (by omega)) ?_;rw [decide_eq_true (h3 0 (m - 1) (by omega) (by omega))];exact hQ _ _ h2 h1 P h3
  ·rw [if_neg h5]
   have e1:m=1:=by omega
   subst e1;unfold kas_descPart;rw [KasT.kasWp_bind];have d2:Dn r p (1 + 1):=Dn.succ (λi j GN hj=>by omega) (Nat.le_refl _) (h4 (by omega));refine tw hc P (n - (1 + 1)) (1 + 1) (by omega) (by omega) d2 λm' h6 h7 h8=>?_;show ((if 0 > 0 then _ else kas_tail3 m' n p).kasWp cmp Q s);rw [if_neg (by omega)];exact xk inj hc P (by omega) h7 h8 hQ
theorem jx (hc:∀ i j C,i < n->j < n->i≠j->C (decide (r i < r j)) s->cmp i j C s){p:Array Nat}(P:Pm n r p){Q:Nat->Shared->Prop}{k:Nat}(hk:k < n)(hu:Up r p k):∀ (f l q:Nat),l<=q->q<=k->q - l<=f->(∀ j,j < l->r (p.getD j 0) < r (p.getD k 0))->(∀ j,q<=j->j < k->r (p.getD k 0) < r (p.getD j 0)) →
 (∀ l',l'<=k->(∀ j,j < l'->r (p.getD j 0) < r (p.getD k 0))->(∀ j,l'<=j->j < k->r (p.getD k 0) < r (p.getD j 0))->Q l' s)->(kas_place p k f l q).kasWp cmp Q s
 | 0,l,q,h1,h2,h3,h4,h5,hQ=>hQ l (by omega) h4 λj h6 h7=>h5 j (by omega) h7
 | f + 1,l,q,h1,h2,h3,h4,h5,hQ=>by
   unfold kas_place
   by_cases h:l ≥ q
   ·rw [if_pos h];exact hQ l (by omega) h4 λj h6 h7=>h5 j (by omega) h7
   ·rw [if_neg h];refine hc _ _ _ (P.lt k hk) (P.lt ((l + q) / 2) (by omega)) (P.nq k ((l + q) / 2) hk (by omega) (by omega)) ?_;have ne:=P.ne k ((l + q) / 2) hk (by omega) (by omega)
    by_cases z:r (p.getD k 0) < r (p.getD ((l + q) / 2) 0)
    ·rw [decide_eq_true z];refine jx hc P hk hu f l ((l + q) / 2) (by omega) (by omega) (by omega) h4 (λj h6 h7=>?_) hQ
     by_cases e:j=(l + q) / 2
     ·subst e; exact z
     ·exact Nat.lt_trans z (hu _ _ (by omega) h7)
    ·rw [decide_eq_false z];refine jx hc P hk hu f ((l + q) / 2 + 1) q (by omega) h2 (by omega) (λj h6=>?_) h5 hQ
     by_cases e:j=(l + q) / 2
     ·subst e; omega
     ·have:=hu j ((l + q) / 2) (by omega) (by omega);omega
theorem rK {p:Array Nat}{k l j:Nat}(hk:k < p.size)(hl:l<=k)(hj:j < p.size):(bubble p k (k - l)).getD j 0=if j=l then p.getD k 0 else if l < j/\j<=k then p.getD (j - 1) 0 else p.getD j 0:=by
 have e:=getElem?_bubble hk (k - l) (by omega) j;rw [show k - (k - l)=l by omega,getD_some (by rw [bubble_size]; exact hj)] at e
 by_cases h1:j=l
 ·rw [if_pos h1,getD_some hk] at e;rw [if_pos h1];exact Option.some.inj e
 ·rw [if_neg h1] at e |-
  by_cases h2:l < j/\j<=k
  ·rw [if_pos h2,getD_some (by omega)] at e;rw [if_pos h2];exact Option.some.inj e
  ·rw [if_neg h2,getD_some hj] at e;rw [if_neg h2];exact Option.some.inj e
theorem vN (inj:∀ i j,i < n->j < n->i≠j->r i≠r j)(hc:∀ i j C,i < n->j < n->i≠j->C (decide (r i < r j)) s->cmp i j C s){Q:Array Nat->Shared->Prop}(hQ:∀ p',Pm n r p'->Up r p' n->Q p' s):∀ (f:Nat)(p:Array Nat)(k:Nat),Pm n r p->k + f=n->Up r p k->(kas_bin f p k).kasWp cmp Q s
 | 0,p,k,P,hk,hu=>hQ p P (by rw [<-hk]; exact hu)
 | f + 1,p,k,P,hk,hu=>by
   unfold kas_bin;rw [KasT.kasWp_bind];refine jx hc P (by omega) hu k 0 k (Nat.zero_le _) (Nat.le_refl _) (by omega) (λj h=>by omega) (λj h1 h2=>by omega) λl h1 h2 h3=>?_;have P':Pm n r (bubble p k (k - l)):=oX inj ((bubble_perm _ _ _).trans P.perm);refine vN inj hc hQ f _ (k + 1) P' (by omega) λi j GN hj=>?_;have sz:=P.size;rw [rK (by omega) h1 (by omega),rK (by omega) h1 (by omega)]
   by_cases e1:i=l
   ·rw [if_pos e1,if_neg (by omega),if_pos ⟨by omega,by omega⟩];exact h3 _ (by omega) (by omega)
   ·rw [if_neg e1]
    by_cases e2:j=l
    ·rw [if_pos e2,if_neg (by omega)];exact h2 _ (by omega)
    ·rw [if_neg e2]
     by_cases e3:l < j
     ·rw [if_pos (show l < j/\j<=k from ⟨e3,by omega⟩)]
      by_cases e4:l < i
      ·rw [if_pos ⟨e4,by omega⟩];exact hu _ _ (by omega) (by omega)
      ·rw [if_neg (by omega)];exact hu _ _ (by omega) (by omega)
     ·rw [if_neg (by omega),if_neg (by omega)];exact hu _ _ GN (by omega)
theorem si (inj:∀ i j,i < n->j < n->i≠j->r i≠r j)(hc:∀ i j C,i < n->j < n->i≠j->C (decide (r i < r j)) s->cmp i j C s)(h0:1<=n){Q:Array Nat->Shared->Prop}(hQ:∀ p',Pm n r p'->Up r p' n->Q p' s):(kas_sort n).kasWp cmp Q s:=by
 unfold kas_sort;rw [KasT.kasWp_bind];refine xP inj hc h0 (oX inj (Array.Perm.refl _)) λm p h1 h2 P hu=>?_;show ((if m < n then kas_bin (n - max m 1) p (max m 1) else KasT.ret p).kasWp cmp Q s)
 by_cases h:m < n
 ·rw [if_pos h,show max m 1=m by omega];exact vN inj hc hQ _ _ _ P (by omega) hu
 ·rw [if_neg h]
  have e:m=n:=by omega
  subst e;exact hQ p P hu
end
section
variable {prog:Program}{w:World}{A:Around}{E:Value->Shared->Prop}{s:Shared}
noncomputable def nv (prog:Program)(w:World)(A:Around)(ks:List Value)(r:Nat->Nat)(s:Shared):Prop :=
 ∃ κ,(∀ Q:SortKind->Shared->Prop,Q κ s->wpAny (model prog w) A (keyKind' ks.toArray) Q (λ_ _=>False) s)/\∀ i j C,i < ks.length->j < ks.length->i≠j->C (decide (r i < r j)) s->kas_ask prog w A κ ks i j C s
noncomputable def cP (vs:List Value)(p:Array Nat):List Value:=p.toList.map λi=>vs.getD i Value.none
theorem oP (vs:List Value):cP vs (List.range vs.length).toArray=vs:=by
 unfold cP;apply List.ext_getElem
 ·simp
 ·intro i h1 h2;simp [h2]
theorem vd {vs:List Value}{r:Nat->Nat}{p:Array Nat}(P:Pm vs.length r p):(cP vs p).length=vs.length:=by
 unfold cP;rw [List.length_map,Array.length_toList,P.size]
theorem c4 {n:Nat}(h:n < 64):n<=sizeLine:=by rw [sizeLine_eq]; omega
noncomputable def xi (a:Addr)(h h':Heap):Prop:=∀ b o,b≠a->h.get? b=some o->h'.get? b=some o
theorem yY {h:Heap}{a:Addr}{o1 o2:Obj}{g:Obj->Obj}:xi a h (((h.update a g).push o1).push o2):=λb o hb e=>by
 refine Heap.get?_push_of_some _ (Heap.get?_push_of_some _ ?_);rw [Heap.get?_update_ne _ _ _ _ hb]; exact e
theorem nh {a:Addr}{vs:List Value}{n:Nat}{r:Nat->Nat}{P:PySem.Fin->Shared->Prop}(ho:s.heap.get? a=some (seqObj "list" vs.toArray n))(h64:vs.length < 64)
 (inj:∀ i j,i < vs.length->j < vs.length->i≠j->r i≠r j)
 (hk:2<=vs.length->∀ h',xi a s.heap h'->nv prog w A vs r { s with heap:=h' })
 (hP:∀ h' p c,xi a s.heap h'->h'.get? a=some (seqObj "list" (cP vs p).toArray c)->Pm vs.length r p->Up r p vs.length->P (.done (.ret .none)) { s with heap:=h' }):
 wpAny (model prog w) A (Builtin.«list.sort» ⟨[.ref a],[]⟩) P E s:=by
 have ha:a < s.heap.objs.size:=Heap.lt_size ho;obtain ⟨e1,IY⟩:∃ e1,(s.heap.update a (Obj.mapSeq λ_=>(#[]:Array Value))).get? a=some (seqObj "list" #[] e1):=⟨_,get?_update_seq ho λ_=>#[]⟩;rw [list_sort_plain];refine wpAny_bind (listItems_at ho rfl (wpAny_bind (listUpdate_at ho rfl (wpAny_bind (seqEpoch_at IY rfl (wpAny_bind (wpAny_newTuple (wpAny_bind (wpAny_newList ?_ (Nat.zero_le _))) (c4 h64))))) (by rw [List.size_toArray]; exact c4 h64) (Nat.zero_le _))));refine wpAny_holding (?_:wpAny (model prog w) A _ P E { s with heap:=((s.heap.update a (Obj.mapSeq λ_=>(#[]:Array Value))).push (seqObj "tuple" vs.toArray 0)).push (seqObj "list" #[] 0) });have kp:xi a s.heap (((s.heap.update a (Obj.mapSeq λ_=>(#[]:Array Value))).push (seqObj "tuple" vs.toArray 0)).push (seqObj "list" #[] 0)):=yY;have MG:(((s.heap.update a (Obj.mapSeq λ_=>(#[]:Array Value))).push (seqObj "tuple" vs.toArray 0)).push (seqObj "list" #[] 0)).get? a=some (seqObj "list" #[] e1):=Heap.get?_push_of_some _ (Heap.get?_push_of_some _ IY);generalize ((s.heap.update a (Obj.mapSeq λ_=>(#[]:Array Value))).push (seqObj "tuple" vs.toArray 0)).push (seqObj "list" #[] 0)=h6 at kp MG |-
 have fin:∀ p,Pm vs.length r p->Up r p vs.length->P (.done (.ret .none)) { s with heap:=h6.update a (Obj.mapSeq λ_=>(cP vs p).toArray) }:=λp pm up=>by
  obtain ⟨c2,Hi⟩:∃ c2,(h6.update a (Obj.mapSeq λ_=>(cP vs p).toArray)).get? a=some (seqObj "list" (cP vs p).toArray c2):=⟨_,get?_update_seq MG λ_=>(cP vs p).toArray⟩;exact hP _ p c2 (λb o hb e=>by rw [Heap.get?_update_ne _ _ _ _ hb]; exact kp b o hb e) Hi pm up
 have last:∀ p,Pm vs.length r p->(List.toArray (cP vs p)).size<=sizeLine:=λp pm=>by rw [List.size_toArray,vd pm]; exact c4 h64
 dsimp only
 by_cases h2:vs.toArray.size < 2
 ·have small:vs.length < 2:=by simpa using h2
  rw [if_pos h2,if_pos h2];refine wpAny_bind (wpAny_pure ?_);rw [StateT.run_pure];refine wpAny_bind (wpAny_pure ?_)
  have hm:(arrOf (SortSt.mk' general' (vs.toArray.zip vs.toArray) #[] 7 none)).map (·.2)=(cP vs (List.range vs.length).toArray).toArray:=by
   rw [oP];show (vs.toArray.zip vs.toArray).map (·.2)=vs.toArray;apply Array.toList_inj.mp;simp [List.map_snd_zip]
  have P0:Pm vs.length r (List.range vs.length).toArray:=oX inj (Array.Perm.refl _)
  have U0:Up r (List.range vs.length).toArray vs.length:=λi j GN hj=>by omega
  dsimp only;rw [hm];refine wpAny_bind (seqEpoch_at MG rfl (wpAny_bind (listUpdate_at MG rfl ?_ (Nat.zero_le _) (Nat.le_succ_of_le (last _ P0)))));simp only [bne_self_eq_false,Bool.false_eq_true,if_false];exact wpAny_pure (fin _ P0 U0)
 ·have big:2<=vs.length:=by simpa using h2
  rw [if_neg h2,if_neg h2];obtain ⟨κ,GA,LC⟩:=hk big h6 kp;refine wpAny_bind (wpAny_mono (GA (λκ' s0=>(kas_sort vs.length).kasWp (kas_ask prog w A κ' vs) (λp s'=>s'={ s with heap:=h6 }/\Pm vs.length r p/\Up r p vs.length) s0) (si (n:=vs.length) (r:=r) inj LC (by omega) (Q:=λp s'=>s'={ s with heap:=h6 }/\Pm vs.length r p/\Up r p vs.length) λp pm up=>⟨rfl,pm,up⟩)) (λκ' s0 hw=>?_) λ_ _ x=>x.elim);refine wpAny_bind (wpAny_mono (kat_run (κ:=κ') (Q:=λFV s'=>∃ p:Array Nat,arrOf FV=p.map (kas_item (vs.toArray.zip vs.toArray))/\failedOf FV=none/\s'={ s with heap:=h6 }/\Pm vs.length r p/\Up r p vs.length) rfl big h64 (λp' FV s' _ a2 a3 a4=>⟨p',a2,a3,a4⟩) hw) ?_ λ_ _ e=>e);rintro ⟨⟨⟩,FV⟩ s' ⟨p,NH,hf,rfl,pm,up⟩;dsimp only;rw [kat_snds rfl NH];refine wpAny_bind (seqEpoch_at MG rfl (wpAny_bind (listUpdate_at MG rfl ?_ (Nat.zero_le _) (Nat.le_succ_of_le (last _ pm)))));rw [hf];simp only [bne_self_eq_false,Bool.false_eq_true,if_false];exact wpAny_pure (fin p pm up)
theorem ub {l:Addr}{vs:List Value}{r:Nat->Nat}{Q:Value->Shared->Prop}(hl:s.heap.IsList l vs.toArray)(h64:vs.length < 64)
 (inj:∀ i j,i < vs.length->j < vs.length->i≠j->r i≠r j)
 (hk:2<=vs.length->∀ h',(∀ b o,s.heap.get? b=some o->h'.get? b=some o)->nv prog w A.in1.in1 vs r { s with heap:=h' })
 (hQ:∀ h' D p c,(∀ b o,s.heap.get? b=some o->h'.get? b=some o)->s.heap.get? D=none->h'.get? D=some (seqObj "list" (cP vs p).toArray c)->Pm vs.length r p->Up r p vs.length->Q (.ref D) { s with heap:=h' }):
 wpAny (model prog w) A (call (.builtin "sorted") [.ref l]) Q E s:=by
 refine Calls.call_function_entry kind_sorted plain_sorted entry_sorted (args_sorted1 _) ?_;unfold Builtin.«sorted»;refine wpAny_bind (m:=checkCount "sorted" 1 1 _) (wpAny_pure (wpAny_bind (collect_list hl (wpAny_bind (wpAny_newList ?_ (c4 h64))) (c4 h64))))
 have sz:((s.heap.push (seqObj "list" #[] 0)).update s.heap.objs.size (Obj.mapSeq (·++vs.toArray))).objs.size=s.heap.objs.size + 1:=by rw [Heap.size_update]; exact size_push' _ _
 have Ju:(((s.heap.push (seqObj "list" #[] 0)).update s.heap.objs.size (Obj.mapSeq (·++vs.toArray))).push (seqObj "list" vs.toArray 0)).get? (s.heap.objs.size + 1)=some (seqObj "list" vs.toArray 0):=by
  rw [<-sz]; exact Heap.get?_push_size _ rfl
 have old:∀ b o,s.heap.get? b=some o->(((s.heap.push (seqObj "list" #[] 0)).update s.heap.objs.size (Obj.mapSeq (·++vs.toArray))).push (seqObj "list" vs.toArray 0)).get? b=some o:=λb o q=>by
  have lt:b < s.heap.objs.size:=Heap.lt_size q;refine Heap.get?_push_of_some _ ?_;rw [Heap.get?_update_ne _ _ _ _ (Nat.ne_of_lt lt)]; exact Heap.get?_push_of_some _ q
 have new:s.heap.get? (s.heap.objs.size + 1)=none:=Heap.get?_none_of_le (Nat.le_succ _);show wpAny _ _ _ _ _ { s with heap:=((s.heap.push (seqObj "list" #[] 0)).update s.heap.objs.size (Obj.mapSeq (·++vs.toArray))).push (seqObj "list" vs.toArray 0) };rw [sz];generalize ((s.heap.push (seqObj "list" #[] 0)).update s.heap.objs.size (Obj.mapSeq (·++vs.toArray))).push (seqObj "list" vs.toArray 0)=h5 at Ju old |-;have kp:∀ h',xi (s.heap.objs.size + 1) h5 h'->∀ b o,s.heap.get? b=some o->h'.get? b=some o:=λh' k b o q=>k b o (λz=>by rw [z,new] at q; cases q) (old b o q);refine wpAny_bind (wpAny_holding (wpAny_call_entry slot_list_sort ⟨_,Ju,rfl⟩ entry_list_sort (nh (s:={ s with heap:=h5 }) (r:=r) Ju h64 inj (λb h' k=>hk b h' (kp h' k)) λh' p c k e pm up=>⟨_,rfl,?_⟩) (args_list_sort _)));exact wpAny_pure ⟨_,rfl,hQ h' _ p c (kp h' k) new e pm up⟩
end
open L2
noncomputable abbrev Ky:=Int × List Int
noncomputable def kJ (a b:Ky):Bool:=if a.1=b.1 then HT.cR a.2 b.2 else decide (a.1 < b.1)
theorem jX:∀ xs:List Int,HT.cR xs xs=false
 | []=>rfl
 | x :: xs=>by rw [HT.dJ,if_pos rfl]; exact jX xs
theorem ml:∀ {xs ys zs:List Int},HT.cR xs ys=true->HT.cR ys zs=true->HT.cR xs zs=true
 | [],[],_,h,_=>by cases h
 | [],y :: ys,[],_,h=>by cases h
 | [],y :: ys,z :: zs,_,_=>rfl
 | x :: xs,[],_,h,_=>by cases h
 | x :: xs,y :: ys,[],_,h=>by cases h
 | x :: xs,y :: ys,z :: zs,h1,h2=>by
   rw [HT.dJ] at h1 h2 |-
   by_cases e1:x=y
   ·rw [if_pos e1] at h1
    by_cases e2:y=z
    ·rw [if_pos e2] at h2;rw [if_pos (e1.trans e2)];exact ml h1 h2
    ·rw [if_neg e2] at h2;rw [e1,if_neg e2];exact h2
   ·rw [if_neg e1] at h1;have l1:=of_decide_eq_true h1
    by_cases e2:y=z
    ·rw [<-e2,if_neg e1];exact h1
    ·rw [if_neg e2] at h2;have l2:=of_decide_eq_true h2;rw [if_neg (by omega)];exact decide_eq_true (by omega)
theorem l7:∀ {xs ys:List Int},xs≠ys->HT.cR xs ys=true\/HT.cR ys xs=true
 | [],[],h=>absurd rfl h
 | [],y :: ys,_=>.inl rfl
 | x :: xs,[],_=>.inr rfl
 | x :: xs,y :: ys,h=>by
   rw [HT.dJ,HT.dJ]
   by_cases e:x=y
   ·subst e;rw [if_pos rfl,if_pos rfl];exact l7 λz=>h (by rw [z])
   ·rw [if_neg e,if_neg (Ne.symm e)];simp only [decide_eq_true_eq];omega
theorem jw (a:Ky):kJ a a=false:=by unfold kJ; rw [if_pos rfl]; exact jX _
theorem iu {a b c:Ky}(h1:kJ a b=true)(h2:kJ b c=true):kJ a c=true:=by
 unfold kJ at h1 h2 |-
 by_cases e1:a.1=b.1
 ·rw [if_pos e1] at h1
  by_cases e2:b.1=c.1
  ·rw [if_pos e2] at h2;rw [if_pos (e1.trans e2)];exact ml h1 h2
  ·rw [if_neg e2] at h2;rw [e1,if_neg e2];exact h2
 ·rw [if_neg e1] at h1;have l1:=of_decide_eq_true h1
  by_cases e2:b.1=c.1
  ·rw [<-e2,if_neg e1];exact h1
  ·rw [if_neg e2] at h2;have l2:=of_decide_eq_true h2;rw [if_neg (by omega)];exact decide_eq_true (by omega)
theorem ip {a b:Ky}(h:a≠b):kJ a b=true\/kJ b a=true:=by
 unfold kJ
 by_cases e:a.1=b.1
 ·rw [if_pos e,if_pos e.symm];exact l7 λz=>h (Prod.ext e z)
 ·rw [if_neg e,if_neg (Ne.symm e)];simp only [decide_eq_true_eq];omega
noncomputable def cJ (ks:List Ky)(i:Nat):Ky:=ks.getD i (0,[])
noncomputable def rk (ks:List Ky)(i:Nat):Nat:=(List.range ks.length).countP λj=>kJ (cJ ks j) (cJ ks i)
theorem mq {α:Type}{p q:α->Bool}:∀ {l:List α},(∀ x∈l,p x=true->q x=true)->(∃ x∈l,q x=true/\p x=false)->l.countP p < l.countP q
 | [],_,⟨x,hx,_⟩=>by cases hx
 | a :: l,h,⟨x,hx,h1,h2⟩=>by
   have le:∀ l':List α,(∀ x∈l',p x=true->q x=true)->l'.countP p<=l'.countP q:=λl' h'=>List.countP_mono_left h';rw [List.countP_cons,List.countP_cons]
   rcases List.mem_cons.mp hx with rfl | hx
   ·rw [if_pos h1,if_neg (by rw [h2]; exact Bool.false_ne_true)];have:=le l λx hx=>h x (List.mem_cons_of_mem _ hx);omega
   ·have ih:=mq (l:=l) (λx hx=>h x (List.mem_cons_of_mem _ hx)) ⟨x,hx,h1,h2⟩;have h0:=h a List.mem_cons_self
    cases e:p a with
    | false=>simp only [Bool.false_eq_true,if_false]; omega
    | true=>rw [h0 e]; simp only [if_true]; omega
theorem gU {ks:List Ky}{i j:Nat}(hi:i < ks.length)(h:kJ (cJ ks i) (cJ ks j)=true):rk ks i < rk ks j :=
 mq (λl _ hl=>iu hl h) ⟨i,List.mem_range.mpr hi,h,jw _⟩
theorem wY {ks:List Ky}{i j:Nat}(hi:i < ks.length)(hj:j < ks.length):decide (rk ks i < rk ks j)=kJ (cJ ks i) (cJ ks j):=by
 cases e:kJ (cJ ks i) (cJ ks j) with
 | true=>exact decide_eq_true (gU hi e)
 | false =>
   refine decide_eq_false λz=>?_
   by_cases k:cJ ks i=cJ ks j
   ·unfold rk at z;rw [k] at z;exact Nat.lt_irrefl _ z
   ·rcases ip k with h | h
    ·rw [e] at h; cases h
    ·exact Nat.lt_asymm z (gU hj h)
theorem wL {ks:List Ky}(nd:ks.Nodup):∀ i j,i < ks.length->j < ks.length->i≠j->rk ks i≠rk ks j:=λi j hi hj Ft z=>by
 have k:cJ ks i≠cJ ks j:=λe=>by
  have e':ks[i]=ks[j]:=by
   unfold cJ at e;simpa [hi,hj] using e
  have pw:=List.pairwise_iff_getElem.mp (show ks.Pairwise (· ≠ ·) from nd)
  rcases Nat.lt_or_gt_of_ne Ft with l | l
  ·exact pw i j _ _ l e'
  ·exact pw j i _ _ l e'.symm
 rcases ip k with h | h
 ·have:=gU hi h; omega
 ·have:=gU hj h; omega
noncomputable def sI (K:Frag)(H:Hp)(x:V)(k:Ky):Prop:=∃ a b rest,x = .ref a/\a9 K H a (.int k.1 :: .ref b :: rest)/\a9 K H b (k.2.map V.int)
noncomputable def cV (K:Frag)(H:Hp):List V->List Ky->Prop
 | [],[]=>True
 | x :: xs,k :: ks=>sI K H x k/\cV K H xs ks
 | _,_=>False
theorem cV.len {K:Frag}{H:Hp}:∀ {xs:List V}{ks:List Ky},cV K H xs ks->xs.length=ks.length
 | [],[],_=>rfl
 | _ :: _,_ :: _,⟨_,r⟩=>congrArg (· + 1) r.len
 | [],_ :: _,h=>h.elim
 | _ :: _,[],h=>h.elim
theorem cV.get {K:Frag}{H:Hp}:∀ {xs:List V}{ks:List Ky}{i:Nat}{x:V},cV K H xs ks->xs[i]?=some x->sI K H x (cJ ks i)
 | x :: xs,k :: ks,0,y,⟨h,_⟩,e=>by simp at e; subst e; exact h
 | x :: xs,k :: ks,i + 1,y,⟨_,r⟩,e=>by
   have:=r.get (i:=i) (x:=y) (by simpa using e);simpa [cJ] using this
 | [],[],i,y,_,e=>by simp at e
 | [],_ :: _,_,_,h,_=>h.elim
 | _ :: _,[],_,_,h,_=>h.elim
theorem gC {K:Frag}{H:Hp}:∀ ns:List Int,bq K H (ns.map D.int) (ns.map V.int)
 | []=>by unfold bq; rfl
 | n :: ns=>by unfold bq; exact ⟨_,_,rfl,by unfold aL; rfl,gC ns⟩
theorem xY (ns:List Int):jd (.tup (ns.map D.int))<=1:=by
 unfold jd
 have:∀ ms:List Int,eF (ms.map D.int)=0:=λms=>by
  induction ms with
  | nil=>unfold eF; rfl
  | cons m ms ih=>rw [List.map_cons]; unfold eF; rw [ih]; unfold jd; rfl
 rw [this];omega
theorem n5:∀ ns ms:List Int,dk (ns.map D.int) (ms.map D.int)=decide (ns=ms)
 | [],[]=>by unfold dk; simp
 | [],m :: ms=>by unfold dk; simp
 | n :: ns,[]=>by unfold dk; simp
 | n :: ns,m :: ms=>by
   rw [List.map_cons,List.map_cons];unfold dk;rw [n5 ns ms];unfold dU
   by_cases e:n=m
   ·subst e; simp
   ·simp [e]
section
variable {X:Cx}{pins:List (Addr × Obj)}{σ:L2.St}{H:Hp}{s:Shared}
theorem yB {A:Around}{x y:V}{u v:Value}{k j:Ky}{C:Bool->Shared->Prop}{E:Value->Shared->Prop}(I:Inv X pins σ H s)(hA:A.units + 2 < cLine)(hx:sI X.K H x k)(hy:sI X.K H y j)(rx:aC x u)(ry:aC y v)(ne:k≠j)(h:C (kJ k j) s):
 wpAny (model X.prog X.w) A (keyLt' (tuples' true) u v) C E s:=by
 obtain ⟨a,b,rest,rfl,h1,h2⟩:=hx;obtain ⟨a',b',WR,rfl,GD,IW⟩:=hy
 cases (show u=Value.ref a from rx)
 cases (show v=Value.ref a' from ry)
 obtain ⟨its,r1,⟨o1,g1,_,n1,d1⟩,_⟩:=I.tuple h1;obtain ⟨its',RC,⟨o1',Nv,_,n1',Zn⟩,_⟩:=I.tuple GD;refine kat_lt g1 d1 Nv Zn ?_
 cases r1 with
 | cons q1 r1 =>
   cases r1 with
   | cons q2 r1 =>
     cases RC with
     | cons Zo RC =>
       cases RC with
       | cons Zq RC =>
         obtain ⟨t,rfl⟩:=q1;obtain ⟨t',rfl⟩:=Zo
         rename_i w2 _ Zr _
         cases (show w2=Value.ref b from q2)
         cases (show Zr=Value.ref b' from Zq)
         show KatLex _ _ _ _ _ _ ((Value.int k.1 t,Value.int j.1 t'):: (Value.ref b,Value.ref b'):: _) 0 s;refine kat_cons (SeqAt.EqAt.int_int k.1 t j.1 t' X.prog X.w _ _ ?_)
         have klt_def:kJ k j=if k.1=j.1 then HT.cR k.2 j.2 else decide (k.1 < j.1):=rfl
         refine kat_go (λe=>kat_yes ?_) λe=>kat_no ?_
         ·have e1:k.1=j.1:=by simpa using e
          have n2:k.2≠j.2:=λz=>ne (Prod.ext e1 z);have dd:=(iB I 1 A (.tup (k.2.map D.int)) (.tup (j.2.map D.int)) (.ref b) (.ref b') (.ref b) (.ref b') (xY _) (by omega) (by unfold aL; exact ⟨b,_,rfl,h2,gC _⟩) (by unfold aL; exact ⟨b',_,rfl,IW,gC _⟩) rfl rfl).2.1
          have e2:dU (.tup (k.2.map D.int)) (.tup (j.2.map D.int))=false:=by unfold dU; rw [n5]; exact decide_eq_false n2
          rw [e2] at dd;refine kat_cons (dd X.prog X.w _ _ (kat_no ?_));rw [klt_def,if_pos e1] at h;obtain ⟨Fe,p2,t2,_⟩:=I.tuple h2;obtain ⟨WS,Zt,Zu,_⟩:=I.tuple IW;exact kat_one _ _ (HT.qj t2 Zu (jy p2) (jy Zt) (by omega) h)
         ·have e1:k.1≠j.1:=by simpa using e
          rw [klt_def,if_neg e1] at h;exact oneLt_int h
theorem Ac (I:Inv X pins σ H s)(xs:List V):∀ (ks:List Ky)(us:List Value),cV X.K H xs ks->aK xs us->∃ fs:List Value,KatTups s.heap us fs/\fs.length=us.length/\∀ f∈fs,∃ i t,f=Value.int i t:=by
 induction xs with
 | nil =>
   intro ks us _ r
   cases r
   exact ⟨[],.nil,rfl,λf hf=>by cases hf⟩
 | cons x xs ih =>
   intro ks us h r
   cases ks with
   | nil=>exact h.elim
   | cons k ks =>
     cases r with
     | cons rx rv =>
       rename_i u us
       obtain ⟨⟨a,b,rest,e,h1,_⟩,hr⟩:=h;obtain ⟨fs,t,hl,hf⟩:=ih ks us hr rv;subst e
       cases (show u=Value.ref a from rx)
       obtain ⟨its,r1,⟨o1,g1,c1,n1,d1⟩,_⟩:=I.tuple h1
       cases r1 with
       | cons q1 r1 =>
         obtain ⟨tk,rfl⟩:=q1;refine ⟨Value.int k.1 tk :: fs,.cons g1 c1 d1 rfl t,by simp [hl],λf Zv=>?_⟩
         rcases List.mem_cons.mp Zv with rfl | z
         ·exact ⟨_,_,rfl⟩
         ·exact hf f z
theorem jO {A:Around}{xs:List V}{ks:List Ky}{us:List Value}(I:Inv X pins σ H s)(hA:A.units + 2 < cLine)(hk:cV X.K H xs ks)(rv:aK xs us)(nd:ks.Nodup)(h2:2<=us.length):nv X.prog X.w A us (rk ks) s:=by
 obtain ⟨fs,t,hl,hf⟩:=Ac I xs ks us hk rv;have Zw:=hk.len;have Zx:=rv.length;refine ⟨tuples' true,λQ hq=>kat_kind (T:=Value.type "int") t (by omega) (λv hv=>?_) (by decide) hq,λi j C hi hj Ft hc=>?_⟩
 ·obtain ⟨i,tk,rfl⟩:=hf v hv;exact .now
 ·have gi:∃ x,xs[i]?=some x/\aC x (us.getD i .none):=by
   have WT:i < xs.length:=by omega
   obtain ⟨u,e,r⟩:=rv.get (i:=i) (x:=xs[i]) (by simp [WT]);refine ⟨xs[i],by simp [WT],?_⟩;rw [List.getD_eq_getElem?_getD,e];exact r
  have gj:∃ x,xs[j]?=some x/\aC x (us.getD j .none):=by
   have RD:j < xs.length:=by omega
   obtain ⟨u,e,r⟩:=rv.get (i:=j) (x:=xs[j]) (by simp [RD]);refine ⟨xs[j],by simp [RD],?_⟩;rw [List.getD_eq_getElem?_getD,e];exact r
  obtain ⟨x,ex,rx⟩:=gi;obtain ⟨y,ey,ry⟩:=gj;rw [wY (by omega) (by omega)] at hc
  have Zy:cJ ks i≠cJ ks j:=λz=>by
   have e':ks[i]'(by omega)=ks[j]'(by omega):=by
    unfold cJ at z;simpa [show i < ks.length by omega,show j < ks.length by omega] using z
   have pw:=List.pairwise_iff_getElem.mp (show ks.Pairwise (· ≠ ·) from nd)
   rcases Nat.lt_or_gt_of_ne Ft with l | l
   ·exact pw i j _ _ l e'
   ·exact pw j i _ _ l e'.symm
  exact yB I hA (hk.get ex) (hk.get ey) rx ry Zy hc
end
section
variable {α:Type}
noncomputable def lh (k:Ky)(x:α):List (Ky × α)->List (Ky × α)
 | []=>[(k,x)]
 | (j,y):: r=>if kJ k j=true then (k,x):: (j,y):: r else (j,y):: lh k x r
noncomputable def cO:List (Ky × α)->List (Ky × α)
 | []=>[]
 | (k,x):: r=>lh k x (cO r)
theorem ir (k:Ky)(x:α):∀ l:List (Ky × α),(lh k x l).Perm ((k,x):: l)
 | []=>.refl _
 | (j,y):: r=>by
   unfold lh
   split
   ·exact .refl _
   ·exact ((ir k x r).cons _).trans (.swap _ _ _)
theorem cx:∀ l:List (Ky × α),(cO l).Perm l
 | []=>.refl _
 | (k,x):: r=>(ir k x _).trans ((cx r).cons _)
noncomputable def Cr (l:List (Ky × α)):Prop:=l.Pairwise λa b=>kJ a.1 b.1=true
theorem tL {k:Ky}{x:α}:∀ {l:List (Ky × α)},Cr l->(∀ p∈l,p.1≠k)->Cr (lh k x l)
 | [],_,_=>List.pairwise_singleton _ _
 | (j,y):: r,h,hn=>by
   obtain ⟨h1,h2⟩:=List.pairwise_cons.mp h;unfold lh
   by_cases e:kJ k j=true
   ·rw [if_pos e];refine List.pairwise_cons.mpr ⟨λp hp=>?_,h⟩
    rcases List.mem_cons.mp hp with rfl | hp
    ·exact e
    ·exact iu e (h1 p hp)
   ·rw [if_neg e];have jk:kJ j k=true:=(ip (hn _ List.mem_cons_self)).resolve_right e;refine List.pairwise_cons.mpr ⟨λp hp=>?_,tL h2 λp hp=>hn p (List.mem_cons_of_mem _ hp)⟩
    rcases List.mem_cons.mp ((ir k x r).mem_iff.mp hp) with rfl | hp
    ·exact jk
    ·exact h1 p hp
theorem jq:∀ {l:List (Ky × α)},(l.map (·.1)).Nodup->Cr (cO l)
 | [],_=>.nil
 | (k,x):: r,h=>by
   obtain ⟨h1,h2⟩:=List.nodup_cons.mp h;exact tL (jq h2) λp hp z=>h1 (z ▸ List.mem_map_of_mem (f:=(·.1)) ((cx r).mem_iff.mp hp))
theorem lG:∀ {l1 l2:List (Ky × α)},Cr l1->Cr l2->l1.Perm l2->l1=l2
 | [],l2,_,_,p=>(List.nil_perm.mp p).symm
 | a :: l1,[],_,_,p=>(List.nil_perm.mp p.symm)
 | a :: l1,b :: l2,h1,h2,p=>by
   obtain ⟨u1,v1⟩:=List.pairwise_cons.mp h1;obtain ⟨u2,v2⟩:=List.pairwise_cons.mp h2
   have e:a=b:=by
    rcases List.mem_cons.mp (p.mem_iff.mp List.mem_cons_self) with z | z
    ·exact z
    ·rcases List.mem_cons.mp (p.mem_iff.mpr (List.mem_cons_self (a:=b) (l:=l2))) with w | w
     ·exact w.symm
     ·have c1:=u2 a z;have c2:=u1 b w;have c3:=iu c1 c2;rw [jw] at c3
      cases c3
   subst e;rw [lG v1 v2 (List.Perm.cons_inv p)]
theorem n8 {l1 l2:List (Ky × α)}(nd:(l2.map (·.1)).Nodup)(h:Cr l1)(p:l1.Perm l2):l1=cO l2:=lG h (jq nd) (p.trans (cx l2).symm)
theorem ph {l1 l2:List (Ky × α)}(nd:(l2.map (·.1)).Nodup)(p:l1.Perm l2):cO l1=cO l2:=by
 refine n8 nd (jq ?_) ((cx l1).trans p);exact (p.map (·.1)).nodup_iff.mpr nd
end
noncomputable def CW (xs:List V)(p:Array Nat):List V:=p.toList.map λi=>xs.getD i .non
theorem oy {xs:List V}{us:List Value}(rv:aK xs us){n:Nat}{r:Nat->Nat}{p:Array Nat}(P:Pm n r p)(hn:n<=xs.length):aK (CW xs p) (cP us p):=by
 have key:∀ l:List Nat,(∀ i∈l,i < xs.length)->aK (l.map λi=>xs.getD i .non) (l.map λi=>us.getD i Value.none):=by
  intro l
  induction l with
  | nil=>intro _; exact .nil
  | cons i l ih =>
    intro h;have hi:=h i List.mem_cons_self;obtain ⟨u,e,r⟩:=rv.get (i:=i) (x:=xs[i]) (by simp [hi]);refine .cons ?_ (ih λj hj=>h j (List.mem_cons_of_mem _ hj));show aC (xs.getD i .non) (us.getD i Value.none);rw [List.getD_eq_getElem?_getD,List.getD_eq_getElem?_getD,e,show xs[i]?=some xs[i] by simp [hi]];exact r
 refine key p.toList λi hi=>?_
 have z:i∈(List.range n):=by
  have pl:p.toList.Perm (List.range n):=by simpa using P.perm.toList
  exact pl.mem_iff.mp hi
 have:=List.mem_range.mp z;omega
theorem oo {xs:List V}{ks:List Ky}(hl:xs.length=ks.length)(nd:ks.Nodup){p:Array Nat}(P:Pm xs.length (rk ks) p)(U:Up (rk ks) p xs.length):CW xs p=(cO (ks.zip xs)).map (·.2):=by
 have pl:p.toList.Perm (List.range xs.length):=by simpa using P.perm.toList
 have e1:(List.range xs.length).map (λi=>(cJ ks i,xs.getD i V.non))=ks.zip xs:=by
  apply List.ext_getElem
  ·simp [hl]
  ·intro i h1 h2
   have hi:i < xs.length:=by simpa using h1
   have hk:i < ks.length:=by omega
   simp [cJ,hi,hk]
 have z:p.toList.map (λi=>(cJ ks i,xs.getD i V.non))=cO (ks.zip xs):=by
  refine n8 ?_ ?_ ?_
  ·rw [List.map_fst_zip (by omega)]; exact nd
  ·unfold Cr;rw [List.pairwise_map];refine List.pairwise_iff_getElem.mpr λi j hi hj GN=>?_;have sz:=P.size;rw [Array.length_toList] at hi hj;have u:=U i j GN (by omega)
   have gi:p.getD i 0=p.toList[i]:=by simp [Array.getD,hi]
   have gj:p.getD j 0=p.toList[j]:=by simp [Array.getD,hj]
   rw [gi,gj] at u
   have bi:p.toList[i] < ks.length:=by rw [<-gi,<-hl]; exact P.lt i (by omega)
   have bj:p.toList[j] < ks.length:=by rw [<-gj,<-hl]; exact P.lt j (by omega)
   rw [<-wY bi bj];exact decide_eq_true u
  ·exact (pl.map _).trans (by rw [e1])
 rw [<-z,List.map_map];rfl
noncomputable def Cu (K:Frag):List V->Hp->VK->Prop:=λvs H Q=>∃ l xs ks,vs=[.ref l]/\bu K H l xs/\xs.length < 64/\cV K H xs ks/\ks.Nodup/\∀ D,H D=none->Q (.ref D) (upd H D (.lst ((cO (ks.zip xs)).map (·.2))))
section
variable {X:Cx}{k:Nat}
theorem n6 (hr:Room (k + 2) X.A):eT X (.builtin "sorted") (Cu X.K):=by
 intro pins s σ H vs us Q I r h;obtain ⟨l,xs,ks,rfl,hl,h64,hk,nd,q⟩:=h;obtain ⟨u,rfl,ru⟩:=gf r
 cases (show u=Value.ref l from ru)
 obtain ⟨its,rv,pl,hz⟩:=I.list hl;have ln:=rv.length;have lk:=hk.len;have inj:=wL nd;refine ub (r:=rk ks) pl.isList (by omega) (λi j hi hj=>inj i j (by omega) (by omega)) (λh2 h' kp=>?_) λh' D p c kp hD e pm up=>?_
 ·exact jO (s:={ s with heap:=h' }) (I.kept (t':=s.toks) kp) (by have:=(hr.in1.in1).units; omega) hk rv nd h2
 ·have WU:Pm xs.length (rk ks) p:=by rw [ln]; exact pm
  have Zz:Up (rk ks) p xs.length:=by rw [ln]; exact up
  have hv:=oy rv WU (Nat.le_refl _);rw [oo lk nd WU Zz] at hv
  have hlen:((cO (ks.zip xs)).map (·.2)).length<=sizeLine:=by
   rw [List.length_map,(cx _).length_eq,List.length_zip];exact Nat.le_trans (Nat.min_le_right _ _) (c4 h64)
  exact ⟨.ref D,_,I.newObj (t':=s.toks) (o:=.lst ((cO (ks.zip xs)).map (·.2))) kp hD ⟨hlen,_,c,hv,e⟩,rfl,q D (I.hnone hD)⟩
end
noncomputable def lj (sp:Sp):List V->Hp->(List V->Hp->Prop)->Prop
 | [],H,R=>R [] H
 | x :: xs,H,R=>sp [x] H (λk H1=>lj sp xs H1 λks H2=>R (k :: ks) H2) λ_ _ _=>False
section
variable {X:Cx}{pins:List (Addr × Obj)}{σ:L2.St}{H:Hp}{s:Shared}
theorem uD {D:Addr}{o:HO}(I:Inv X pins σ H s)(f:cC X pins H D)(hD:X.s₀.heap.objs.size<=D)(new:ba X.prog X.w (upd H D o) s.heap D o):Inv X pins σ (upd H D o) s:=by
 obtain ⟨f0,f1,f2,f3,f4,f5⟩:=f;have u:=I.base;refine ⟨I.ok,I.os,I.bare,⟨u.keep,u.slot,λb' o' e n hx=>?_,u.there,λb' xs e=>?_,λb' o' u' e=>?_,λb' ps e=>?_⟩,I.loc,I.cell,?_,λx c e=>?_,λp hp=>?_,da I.hok f0 new,I.len⟩
 ·rw [ao (Nat.ne_of_lt (Nat.lt_of_lt_of_le (Heap.lt_size e) hD))]; exact u.free b' o' e n hx
 ·rw [ao (au (u.tups b' xs e) f0)]; exact u.tups b' xs e
 ·rw [ao (au (u.frzs b' o' u' e) f0)]; exact u.frzs b' o' u' e
 ·obtain ⟨m,q⟩:=u.tbls b' ps e;exact ⟨m,by rw [ao (au q f0)]; exact q⟩
 ·rw [ao (Ne.symm f1)]; exact I.free
 ·rw [ao (f4 x c e)]; exact I.freeC x c e
 ·obtain ⟨e,n,r⟩:=I.pin p hp;exact ⟨e,by rw [ao (f5 p hp)]; exact n,r⟩
theorem zB {b c:Addr}{ob:Obj}(f:cC X pins H b)(h:c≠b):cC X (pins++[(c,ob)]) H b:=by
 obtain ⟨f0,f1,f2,f3,f4,f5⟩:=f;refine ⟨f0,f1,f2,f3,f4,λp hp=>?_⟩;rw [<-List.append_assoc] at hp
 rcases List.mem_append.mp hp with z | z
 ·exact f5 p z
 ·have e:p=(c,ob):=by simpa using z
  subst e;exact h
theorem ng {H':Hp}{b:Addr}(f:cC X pins H b)(h:H' b=none):cC X pins H' b:=⟨h,f.2⟩
theorem sY {b:Addr}{ob:Obj}(I:Inv X pins σ H s)(f:cC X pins H b)(e:s.heap.get? b=some ob)(d:∀ v,ob.data ≠ .cell v):Inv X (pins++[(b,ob)]) σ H s:=I.pins_of λp hp=>by
 rcases List.mem_append.mp hp with z | z
 ·exact I.pin p (List.mem_append_right _ z)
 ·have e1:p=(b,ob):=by simpa using z
  subst e1;exact ⟨e,f.1,f.2.1,f.2.2.1,d⟩
theorem md {b:Addr}{ob:Obj}(I:Inv X (pins++[(b,ob)]) σ H s):Inv X pins σ H s:=I.pins_of λp hp=>I.pin p (List.mem_append_right _ (List.mem_append_left _ hp))
theorem wH {b:Addr}{ob:Obj}(I:Inv X (pins++[(b,ob)]) σ H s):s.heap.get? b=some ob/\H b=none:=by
 obtain ⟨e,n,_⟩:=I.pin (b,ob) (List.mem_append_right _ (List.mem_append_right _ (by simp)));exact ⟨e,n⟩
end
theorem jV {c:String}{xs:Array Value}{n:Nat}:∀ v,(seqObj c xs n).data ≠ .cell v:=λv z=>by cases z
section
variable {X:Cx}{pins:List (Addr × Obj)}{σ:L2.St}{k:Nat}{f:Addr}{fd:FuncData}{ps:List Str}{sp:Sp}{A:Around}{E:Value->Shared->Prop}
theorem yu {H:Hp}{s:Shared}{x:V}{u:Value}{Q:VK}(F:FnOk X.prog X.w X.K X.mg X.base (aV X.prog X.w) k f fd ps sp)(hr:Room k A)(hA:∀ H s,Inv X pins σ H s->Env0 X.prog X.w X.K X.mg X.base A X.stack s H)(hb:aA X.K fd ps [])(I:Inv X pins σ H s)(r:aC x u)(h:sp [x] H Q λ_ _ _=>False):
 wpAny (model X.prog X.w) A (call (.ref f) [u]) (EP X pins σ Q) (λ_ _=>False) s:=by
 have hl:([u]:List Value).length + ([]:List Value).length=ps.length:=by have:=F.len _ _ _ _ h; simpa using this
 have bd:=hb s [u] I.kIn hl;rw [List.append_nil] at bd;refine wpAny_call (codeAny_mono (F.run A X.stack s H ⟨[u],[]⟩ [u] [x] Q _ hr (hA H s I) bd (.cons r .nil) h) λres s' hq=>?_)
 cases res with
 | error e =>
   obtain ⟨a,cls,a0,B,d,H',_,_,_,_,hE⟩:=hq;exact hE.elim
 | ok fl =>
   cases fl with
   | ret v=>exact I.after hq
   | next=>exact False.elim hq
   | brk=>exact False.elim hq
   | cont=>exact False.elim hq
end
noncomputable abbrev jm (X:Cx)(xs:List V)(Q:VK):List V->Hp->Prop:=λks H2=>∃ kz,cV X.K H2 ks kz/\kz.Nodup/\∀ D,H2 D=none->Q (.ref D) (upd H2 D (.lst ((cO (kz.zip xs)).map (·.2))))
section
variable {X:Cx}{pins:List (Addr × Obj)}{σ:L2.St}{k:Nat}{f:Addr}{fd:FuncData}{ps:List Str}{sp:Sp}{A:Around}{E:Value->Shared->Prop}
theorem yQ {ks vs:List Value}(h:ks.length=vs.length):((ks.toArray.zip vs.toArray).map (·.2))=vs.toArray:=by
 apply Array.toList_inj.mp;rw [Array.toList_map,ksk_zip];simp only [List.toList_toArray] at *;exact List.map_snd_zip (by omega)
theorem uA {H:Hp}{s:Shared}{D kS:Addr}{e1 c:Nat}{xs kV:List V}{us ks:List Value}{Q:VK}{P:PySem.Fin->Shared->Prop}(hA:A.units + 2 < cLine)(hD:X.s₀.heap.objs.size<=D)(fD:cC X pins H D)(fS:cC X pins H kS)(ne:kS≠D)
 (I:Inv X pins σ H s)(eD:s.heap.get? D=some (seqObj "list" #[] e1))(eS:s.heap.get? kS=some (seqObj "list" ks.toArray c))(rx:aK xs us)(LD:aK kV ks)(hl:kV.length=xs.length)(h64:xs.length < 64)(w:jm X xs Q kV H)
 (hP:∀ s',EP X pins σ Q (.ref D) s'->P (.done (.ret .none)) s'):wpAny (model X.prog X.w) A (ksk_end D false us.toArray e1 (.ref kS) ks.toArray) P E s:=by
 obtain ⟨kz,hk,nd,q⟩:=w;have l1:=rx.length;have l2:=LD.length;have l3:=hk.len;have inj:=wL nd
 have fin:∀ p,Pm xs.length (rk kz) p->Up (rk kz) p xs.length->∀ st:SortSt,(arrOf st).map (·.2)=(cP us p).toArray->failedOf st=none->wpAny (model X.prog X.w) A (ksk_tail D false e1 (.ref kS) st) P E s:=λp pm up st NH hf=>by
  have Tf:=oy rx pm (Nat.le_refl _);rw [oo (by omega) nd pm up] at Tf
  have hlen:((cO (kz.zip xs)).map (·.2)).length<=sizeLine:=by
   rw [List.length_map,(cx _).length_eq,List.length_zip];exact Nat.le_trans (Nat.min_le_right _ _) (c4 h64)
  have Tg:(cP us p).toArray.size<=sizeLine:=by rw [List.size_toArray,<-Tf.length]; exact hlen
  have JU:=Heap.SameBut.update s.heap kS (Obj.mapSeq λ_=>(#[]:Array Value));have Ih:(s.heap.update kS (Obj.mapSeq λ_=>(#[]:Array Value))).get? D=some (seqObj "list" #[] e1):=(JU.2 D (Ne.symm ne)).trans eD;have I1:Inv X pins σ H { s with heap:=s.heap.update kS (Obj.mapSeq λ_=>(#[]:Array Value)) }:=cA I fS JU;unfold ksk_tail;dsimp only;rw [NH];refine wpAny_bind (listUpdate_at eS rfl (wpAny_bind (wpAny_letGo ?_)) (by rw [List.size_toArray,<-l2,hl]; exact c4 h64) (Nat.zero_le _));generalize s.heap.update kS (Obj.mapSeq λ_=>(#[]:Array Value))=h1 at Ih I1 |-;have RE:=Heap.SameBut.update h1 D (Obj.mapSeq λ_=>(cP us p).toArray);obtain ⟨c2,Hi⟩:∃ c2,(h1.update D (Obj.mapSeq λ_=>(cP us p).toArray)).get? D=some (seqObj "list" (cP us p).toArray c2):=⟨_,get?_update_seq Ih λ_=>(cP us p).toArray⟩;have I2:Inv X pins σ H { s with heap:=h1.update D (Obj.mapSeq λ_=>(cP us p).toArray) }:=cA (s:={ s with heap:=h1 }) I1 fD RE;have I3:=uD (o:=.lst ((cO (kz.zip xs)).map (·.2))) I2 fD hD ⟨hlen,_,c2,Tf,Hi⟩;refine wpAny_bind (seqEpoch_at Ih rfl (wpAny_bind (listUpdate_at Ih rfl ?_ (Nat.zero_le _) (Nat.le_succ_of_le Tg))));rw [hf];simp only [bne_self_eq_false,Bool.false_eq_true,if_false];exact wpAny_pure (hP _ ⟨.ref D,_,I3,rfl,q D fD.1⟩)
 have P0:Pm xs.length (rk kz) (List.range xs.length).toArray:=oX (λi j hi hj=>inj i j (by omega) (by omega)) (Array.Perm.refl _);unfold ksk_end;dsimp only;rw [if_neg Bool.false_ne_true];simp only [Bool.false_eq_true,if_false]
 by_cases h2:us.toArray.size < 2
 ·have small:xs.length < 2:=by rw [l1]; simpa using h2
  rw [if_pos h2,if_pos h2];refine wpAny_bind (wpAny_pure ?_);rw [StateT.run_pure];refine wpAny_bind (wpAny_pure ?_);refine fin (List.range xs.length).toArray P0 (λi j GN hj=>by omega) _ ?_ rfl;show (ks.toArray.zip us.toArray).map (·.2)=_;rw [yQ (by omega),l1,oP]
 ·have big:2<=us.length:=by simpa using h2
  rw [if_neg h2,if_neg h2];obtain ⟨κ,GA,LC⟩:=jO (A:=A) I hA hk LD nd (by omega);refine wpAny_bind (wpAny_mono (GA (λκ' s0=>(kas_sort us.length).kasWp (kas_ask X.prog X.w A κ' ks) (λp s'=>s'=s/\Pm us.length (rk kz) p/\Up (rk kz) p us.length) s0) (si (n:=us.length) (r:=rk kz) (λi j hi hj=>inj i j (by omega) (by omega)) (λi j C hi hj=>LC i j C (by omega) (by omega)) (by omega) λp pm up=>⟨rfl,pm,up⟩)) (λκ' s0 hw=>?_) λ_ _ x=>x.elim);refine wpAny_bind (wpAny_mono (kat_run (κ:=κ') (Q:=λFV s'=>∃ p:Array Nat,arrOf FV=p.map (kas_item (ks.toArray.zip us.toArray))/\failedOf FV=none/\s'=s/\Pm us.length (rk kz) p/\Up (rk kz) p us.length) (by omega) big (by omega) (λp' FV s' _ a2 a3 a4=>⟨p',a2,a3,a4⟩) hw) ?_ λ_ _ e=>e);rintro ⟨⟨⟩,FV⟩ s' ⟨p,NH,hf,rfl,pm,up⟩;exact fin p (by rw [l1]; exact pm) (by rw [l1]; exact up) FV (kat_snds (by omega) NH) hf
theorem vT {α:Type}{l:List α}{j:Nat}{x:α}(h:l[j]?=some x):l.drop j=x :: l.drop (j + 1):=by
 obtain ⟨hj,e⟩:=List.getElem?_eq_some_iff.mp h;rw [List.drop_eq_getElem_cons hj,e]
theorem kQ {H:Hp}{s:Shared}{D:Addr}{n:Nat}{xs:List V}{us:List Value}{Q:VK}{P:PySem.Fin->Shared->Prop}(F:FnOk X.prog X.w X.K X.mg X.base (aV X.prog X.w) k f fd ps sp)(hr:Room k A)(hE:∀ pins' H s,Inv X pins' σ H s->Env0 X.prog X.w X.K X.mg X.base A X.stack s H)(hb:aA X.K fd ps [])
 (hD:X.s₀.heap.objs.size<=D)(fD:cC X pins H D)(I:Inv X pins σ H s)(eD:s.heap.get? D=some (seqObj "list" us.toArray n))(rx:aK xs us)(h64:xs.length < 64)(h:lj sp xs H (jm X xs Q))
 (hP:∀ s',EP X pins σ Q (.ref D) s'->P (.done (.ret .none)) s'):wpAny (model X.prog X.w) A (ksk_tree D (.ref f) false) P E s:=by
 have l1:=rx.length
 have ZA:us.toArray.size<=sizeLine:=by rw [List.size_toArray,<-l1]; exact c4 h64
 obtain ⟨e1,Ih⟩:∃ e1,(s.heap.update D (Obj.mapSeq λ_=>(#[]:Array Value))).get? D=some (seqObj "list" #[] e1):=⟨_,get?_update_seq eD λ_=>#[]⟩;have I1:Inv X pins σ H { s with heap:=s.heap.update D (Obj.mapSeq λ_=>(#[]:Array Value)) }:=cA I fD (Heap.SameBut.update _ _ _);unfold ksk_tree;refine wpAny_bind (listItems_at eD rfl (wpAny_bind (listUpdate_at eD rfl (wpAny_bind (seqEpoch_at Ih rfl (wpAny_bind (wpAny_newTuple ?_ (by show us.length<=_; rw [<-l1]; exact c4 h64))))) ZA (Nat.zero_le _))));refine wpAny_bind (wpAny_newList (wpAny_holding ?_) (Nat.zero_le _));generalize s.heap.update D (Obj.mapSeq λ_=>(#[]:Array Value))=h1 at Ih I1 |-;dsimp only;have I2:Inv X pins σ H { s with heap:=h1.push (seqObj "tuple" us.toArray 0) }:=I1.kept (t':=s.toks) λb o q=>Heap.get?_push_of_some _ q;have LF:(h1.push (seqObj "tuple" us.toArray 0)).get? D=some (seqObj "list" #[] e1):=Heap.get?_push_of_some _ Ih;show wpAny (model X.prog X.w) A (ksk_rest D (.ref f) false us.toArray e1 (.ref (h1.push (seqObj "tuple" us.toArray 0)).objs.size)) P E { s with heap:=(h1.push (seqObj "tuple" us.toArray 0)).push (seqObj "list" #[] 0) };generalize h1.push (seqObj "tuple" us.toArray 0)=h2 at I2 LF |-;have ne:h2.objs.size≠D:=Nat.ne_of_gt (Heap.lt_size LF);have Ti:cC X pins H h2.objs.size:=I2.fpOk (Nat.le_refl _) (I2.hok.fresh (Nat.le_refl _));have I3:Inv X pins σ H { s with heap:=h2.push (seqObj "list" #[] 0) }:=I2.kept (t':=s.toks) λb o q=>Heap.get?_push_of_some _ q;have ZC:(h2.push (seqObj "list" #[] 0)).get? D=some (seqObj "list" #[] e1):=Heap.get?_push_of_some _ LF;have WV:(h2.push (seqObj "list" #[] 0)).get? h2.objs.size=some (seqObj "list" ([]:List Value).toArray 0):=Heap.get?_push_size _ rfl;have ZD:∀ {H':Hp},H' D=none->cC X pins H' D:=λz=>ng fD z;have Tj:∀ {H':Hp},H' h2.objs.size=none->cC X pins H' h2.objs.size:=λz=>ng Ti z;generalize h2.objs.size=kS at ne Ti WV Tj |-;unfold ksk_rest;refine wpAny_bind (wpAny_rule ?_);rw [List.forIn_toArray]
 let II:Nat->Shared->Prop:=λj s'=>∃ (H':Hp)(c:Nat)(kV:List V)(ks:List Value),Inv X (pins++[(D,seqObj "list" #[] e1)]) σ H' s'/\s'.heap.get? kS=some (seqObj "list" ks.toArray c)/\H' kS=none/\aK kV ks/\kV.length=j/\lj sp (xs.drop j) H' λk2 H2=>jm X xs Q (kV++k2) H2
 have I4:Inv X (pins++[(D,seqObj "list" #[] e1)]) σ H { s with heap:=h2.push (seqObj "list" #[] 0) }:=sY I3 fD ZC jV;refine wpAny_bind (wpAny_mono (ksk_fold (E:=E) (Q:=λ_ s'=>II us.length s') II us 0 { s with heap:=h2.push (seqObj "list" #[] 0) } ⟨H,0,[],[],I4,WV,Ti.1,.nil,rfl,by simpa using h⟩ (λj u s' hu hI=>?_) λs' hd=>by simpa using hd) (λ_ s' hI=>?_) λ_ _ e=>e)
 ·rw [Nat.zero_add] at hI |-;obtain ⟨H',c,kV,ks,J,eS,nS,LD,hl,t⟩:=hI;have hj:j < us.length:=(List.getElem?_eq_some_iff.mp hu).1;obtain ⟨x,hx⟩:∃ x,xs[j]?=some x:=⟨xs[j]'(by omega),by simp [show j < xs.length by omega]⟩;obtain ⟨u',WW,ZE⟩:=rx.get hx;rw [hu] at WW
  cases WW
  rw [vT hx] at t;have WX:cC X (pins++[(D,seqObj "list" #[] e1)]) H' kS:=zB (Tj nS) (Ne.symm ne);have J2:=sY J WX eS jV;refine wpAny_bind (wpAny_attempt (wpAny_mono (yu F hr (hE _) hb J2 ZE t) (λkv s2 hk=>?_) λ_ _ z=>z.elim));obtain ⟨v,H2,J3,rv,t2⟩:=hk;obtain ⟨WY,WZ⟩:=wH J3;have J4:=md J3;have ZF:cC X (pins++[(D,seqObj "list" #[] e1)]) H2 kS:=ng WX WZ
  have ea:ks.toArray.push kv=(ks++[kv]).toArray:=by simp
  obtain ⟨c2,Hi⟩:∃ c2,(s2.heap.update kS (Obj.mapSeq (·.push kv))).get? kS=some (seqObj "list" (ks++[kv]).toArray c2):=⟨_,by rw [<-ea]; exact get?_update_seq WY (·.push kv)⟩;have lk:=LD.length;refine wpAny_bind (listUpdate_at WY rfl ?_ (by rw [List.size_toArray]; exact c4 (by omega)) (Nat.le_trans (Nat.le_of_eq (Array.size_push ..)) (by rw [List.size_toArray]; exact Nat.succ_le_succ (c4 (by omega)))));refine wpAny_pure ⟨rfl,H2,c2,kV++[v],ks++[kv],cA J4 ZF (Heap.SameBut.update _ _ _),Hi,WZ,LD.append (.cons rv .nil),by simp [hl],?_⟩
  have e:∀ k2:List V,kV++[v]++k2=kV++v :: k2:=λk2=>by simp
  simp only [e];exact t2
 ·obtain ⟨H',c,kV,ks,J,eS,nS,LD,hl,t⟩:=hI;rw [<-l1,List.drop_length] at t
  have w:jm X xs Q kV H':=by
   have z:jm X xs Q (kV++[]) H':=t;rwa [List.append_nil] at z
  obtain ⟨RG,nD⟩:=wH J;refine wpAny_bind (listItems_at eS rfl ?_);exact uA (by have:=hr.units; omega) hD (ZD nD) (Tj nS) ne (md J) RG eS rx LD (by omega) h64 w hP
theorem qM {H:Hp}{s:Shared}{l:Addr}{xs:List V}{Q:VK}(F:FnOk X.prog X.w X.K X.mg X.base (aV X.prog X.w) k f fd ps sp)(hr:Room (k + 2) X.A)(hb:aA X.K fd ps [])
 (I:Inv X pins σ H s)(hl:bu X.K H l xs)(h64:xs.length < 64)(h:lj sp xs H (jm X xs Q)):wpAny (model X.prog X.w) X.A (call (.builtin "sorted") [.ref l] [(Str.ofString "key",.ref f)]) (EP X pins σ Q) E s:=by
 obtain ⟨us,rx,pl,_⟩:=I.list hl;have l1:=rx.length;refine call_function_entry_kw kind_sorted plain_sorted entry_sorted (ksk_s1 _ _) ?_;unfold Builtin.«sorted»;refine wpAny_bind (m:=checkCount "sorted" 1 1 _) (wpAny_pure (wpAny_bind (collect_list pl.isList (wpAny_bind (wpAny_newList ?_ (c4 (by omega)))) (c4 (by omega)))))
 have sz:((s.heap.push (seqObj "list" #[] 0)).update s.heap.objs.size (Obj.mapSeq (·++us.toArray))).objs.size=s.heap.objs.size + 1:=by rw [Heap.size_update]; exact size_push' _ _
 have Ju:(((s.heap.push (seqObj "list" #[] 0)).update s.heap.objs.size (Obj.mapSeq (·++us.toArray))).push (seqObj "list" us.toArray 0)).get? (s.heap.objs.size + 1)=some (seqObj "list" us.toArray 0):=by
  rw [<-sz]; exact Heap.get?_push_size _ rfl
 have old:∀ b o,s.heap.get? b=some o->(((s.heap.push (seqObj "list" #[] 0)).update s.heap.objs.size (Obj.mapSeq (·++us.toArray))).push (seqObj "list" us.toArray 0)).get? b=some o:=λb o q=>by
  have lt:b < s.heap.objs.size:=Heap.lt_size q;refine Heap.get?_push_of_some _ ?_;rw [Heap.get?_update_ne _ _ _ _ (Nat.ne_of_lt lt)]; exact Heap.get?_push_of_some _ q
 show wpAny _ _ _ _ _ { s with heap:=((s.heap.push (seqObj "list" #[] 0)).update s.heap.objs.size (Obj.mapSeq (·++us.toArray))).push (seqObj "list" us.toArray 0) };rw [sz];generalize ((s.heap.push (seqObj "list" #[] 0)).update s.heap.objs.size (Obj.mapSeq (·++us.toArray))).push (seqObj "list" us.toArray 0)=h5 at Ju old |-;have I5:Inv X pins σ H { s with heap:=h5 }:=I.kept (t':=s.toks) old;have fD:cC X pins H (s.heap.objs.size + 1):=I.fpOk (Nat.le_succ _) (I.hok.fresh (Nat.le_succ _));refine wpAny_bind (wpAny_holding (wpAny_call_entry_kw slot_list_sort ⟨_,Ju,rfl⟩ entry_list_sort ?body (ksk_l1 _ _)))
 case body =>
  show wpAny (model X.prog X.w) X.A.in1.in1 (Builtin.«list.sort» ⟨[.ref (s.heap.objs.size + 1)],[(Str.ofString "key",.ref f)]⟩) _ _ _;rw [ksk_t1];exact kQ (A:=X.A.in1.in1) F hr.in1.in1 (λpins' H' s' J=>J.env0.in1.in1) hb (Nat.le_trans I.sz (Nat.le_succ _)) fD I5 Ju rx h64 h λs' q=>⟨_,rfl,wpAny_pure ⟨_,rfl,q⟩⟩
end
noncomputable def Be (X:Cx)(sp:Sp)(ta:TE):TE:=λσ H Q=>dZ ta tNil σ H λvs H1=>∃ l xs,vs=[.ref l]/\bu X.K H1 l xs/\xs.length < 64/\lj sp xs H1 (jm X xs Q)
section
variable {X:Cx}{k:Nat}{f:Addr}{fd:FuncData}{ps:List Str}{sp:Sp}{e:Expr}{ta:TE}{x:Str}{p p2 Tn pos:Pos}
theorem xR (F:FnOk X.prog X.w X.K X.mg X.base (aV X.prog X.w) k f fd ps sp)(hr:Room (k + 2) X.A)(hb:aA X.K fd ps [])(hg:Gl X "sorted")(hm:X.mg "sorted"=none)(ZG:Gl X x)(ZH:X.mg x=some (.ref f))(ha:PE X e ta)(hs:gG e=false:=by rfl)(hd:(x == ("__debug__":Str))=false:=by decide):
 PE X (.Call (.Name "sorted" p) [e] [⟨some "key",.Name x p2,Tn⟩] pos) (Be X sp ta):=by
 intro pins s σ H Q I h;refine wpAny_Call_Name_kw (fh I hg hm (by rfl) ?_ (by decide) (by decide));refine callWith_builtin_kwB (by rw [bX hs]; rfl) rfl (evalArgs_kw2 rfl ?_ (bX hs));refine bR (ai ha af hs pos pins s σ H _ I h) λus s1 ⟨vs,H1,I1,r1,⟨l,xs,hv,hl,h64,ht⟩⟩=>?_;subst hv
 cases r1 with
 | cons ra rb =>
   cases rb
   cases ra
   refine kwAll_cons (fj I1 ZG ZH (kwAll_nil ?_) hd);exact qM F hr hb I1 hl h64 ht
end
end Srt
namespace K06
open PySem L2 PySem.W Nm Srt
theorem BL {n:Nat}{p t b:Int}(hp:FP p)(h:B n t)(hb:b≠0)(hn:7<=n):B n (c6 p t b):=by
 unfold c6
 by_cases z:p=0
 ·rw [if_pos z];exact h.le (sJ hb)
 ·rw [if_neg z];obtain ⟨_,p2,Rw⟩:=hp.two z;have h0:=Int.emod_nonneg t (b:=p) (by omega);have h1:=Int.emod_lt_of_pos t (b:=p) (by omega)
  have:B 7 (t % p):=by
   show (t % p).natAbs < 2 ^ 7;omega
  exact this.mono hn
theorem AW {n:Nat}{p t b:Int}(h:B n b)(hb:b≠0)(hn:1<=n):B n (dq p t b):=by
 unfold dq
 by_cases z:p=0
 ·rw [if_pos z];exact h.le (tR hb)
 ·rw [if_neg z];exact (show B 1 (1:Int) from (by show (1:Int).natAbs < 2 ^ 1; decide)).mono hn
noncomputable abbrev Tm:=List Int × Int × Int
noncomputable def dm (p:Int)(a b:Int × Int):Int × Int:=(c6 p (jP a.1 a.2 b.1 b.2) (a.2 * b.2),dq p (jP a.1 a.2 b.1 b.2) (a.2 * b.2))
noncomputable def Gn (p:Int)(n:Nat)(a:Int × Int):Prop:=Num p a.1 a.2/\B n a.1/\B n a.2
theorem Gn.ne {p:Int}{n:Nat}{a:Int × Int}(h:Gn p n a):a.2≠0:=by have:=h.1.pos; omega
theorem vh {p:Int}{n m:Nat}{a b:Int × Int}(hp:FP p)(ha:Gn p n a)(hb:Gn p m b)(h7:7<=n + m + 1):Gn p (n + m + 1) (dm p a b):=by
 have nz:a.2 * b.2≠0:=Int.mul_ne_zero ha.ne hb.ne;refine ⟨Num.set hp.nn nz,BL hp ?_ nz h7,(AW (n:=n + m) (ha.2.2.mul hb.2.2) nz (by omega)).mono (by omega)⟩;have h1:B (n + m) (a.1 * b.2):=ha.2.1.mul hb.2.2;have h2:B (n + m) (b.1 * a.2):=(hb.2.1.mul ha.2.2).mono (by omega);exact h1.add h2
theorem vi {p:Int}{n:Nat}{b:Int × Int}(hp:FP p)(hb:Gn p n b):dm p (0,1) b=b:=by
 obtain ⟨h1,h2⟩:=hb.1.self hp.nn;unfold dm jP
 have e1:(0:Int) * b.2 + b.1 * 1=b.1:=by omega
 have e2:(1:Int) * b.2=b.2:=by omega
 rw [e1,e2,h1,h2]
noncomputable def cX (p:Int)(d:List Tm)(t:Tm):List Tm:=if d.any (λe=>decide (e.1=t.1))=true then d.map (λe=>if e.1=t.1 then (e.1,dm p e.2 t.2) else e) else d++[t]
noncomputable def aN (p:Int)(ts:List Tm):List Tm:=ts.foldl (cX p) []
noncomputable def lL (p:Int)(n:Nat)(d:List Tm):Prop:=∀ e∈d,Gn p n e.2
theorem uq {p:Int}{n m:Nat}{d:List Tm}{t:Tm}(hp:FP p)(hd:lL p n d)(ht:Gn p m t.2)(h7:7<=n + m + 1):lL p (n + m + 1) (cX p d t):=by
 have up:∀ e∈d,Gn p (n + m + 1) e.2:=λe he=>⟨(hd e he).1,(hd e he).2.1.mono (by omega),(hd e he).2.2.mono (by omega)⟩;unfold cX
 split
 ·intro e he;obtain ⟨e0,h0,rfl⟩:=List.mem_map.mp he
  by_cases q:e0.1=t.1
  ·rw [if_pos q]; exact vh hp (hd e0 h0) ht h7
  ·rw [if_neg q]; exact up e0 h0
 ·intro e he
  rcases List.mem_append.mp he with he | he
  ·exact up e he
  ·have:e=t:=by simpa using he
   subst this;exact ⟨ht.1,ht.2.1.mono (by omega),ht.2.2.mono (by omega)⟩
theorem lZ {p:Int}{d:List Tm}{t:Tm}(hd:(d.map (·.1)).Nodup):((cX p d t).map (·.1)).Nodup:=by
 unfold cX
 split
 ·rw [List.map_map]
  have:((λe:Tm=>e.1) ∘ λe=>if e.1=t.1 then (e.1,dm p e.2 t.2) else e)=λe=>e.1:=by
   funext e
   show (if e.1=t.1 then (e.1,dm p e.2 t.2) else e).1=e.1
   split <;> rfl
  rw [this];exact hd
 ·rename_i q
  rw [List.map_append];refine List.nodup_append.mpr ⟨hd,by simp,λa ha b hb z=>?_⟩
  have:b=t.1:=by simpa using hb
  subst this;subst z;obtain ⟨e,he,e1⟩:=List.mem_map.mp ha;exact q (List.any_eq_true.mpr ⟨e,he,by simpa using e1⟩)
theorem xa {p:Int}{d:List Tm}{t:Tm}:(cX p d t).length<=d.length + 1:=by
 unfold cX
 split <;> simp
noncomputable def en (t:Tm):Ky:=(t.1.length,t.1)
noncomputable def dW (d:List Tm):List Tm:=(cO ((d.filter λe=>e.2.1 != 0).map λe=>(en e,e))).map (·.2)
theorem iH (p:Int)(ts:List Tm)(t:Tm):aN p (ts++[t])=cX p (aN p ts) t:=by
 unfold aN;rw [List.foldl_append];rfl
theorem il {p:Int}{m:Nat}(hp:FP p):∀ (n:Nat)(ts:List Tm),ts.length=n->(∀ t∈ts,Gn p m t.2)->lL p ((m + 1) * n + 7) (aN p ts)/\((aN p ts).map (·.1)).Nodup/\(aN p ts).length<=n
 | 0,ts,hn,_=>by
   have:ts=[]:=List.length_eq_zero_iff.mp hn;subst this;refine And.intro (λe he=>?_) (And.intro List.nodup_nil (Nat.le_refl 0));exact absurd (show e∈([]:List Tm) from he) (by simp)
 | n + 1,ts,hn,h=>by
   obtain ⟨RI,t,rfl⟩:∃ RI t,ts=RI++[t]:=by
    have Ft:ts≠[]:=by intro z; rw [z] at hn; cases hn
    exact ⟨ts.dropLast,ts.getLast Ft,(List.dropLast_concat_getLast Ft).symm⟩
   have hl:RI.length=n:=by simpa using hn
   obtain ⟨g1,g2,g3⟩:=il hp n RI hl λt ht=>h t (List.mem_append_left _ ht);rw [iH];have gt:=h t (List.mem_append_right _ (by simp));have e2:(m + 1) * (n + 1)=(m + 1) * n + (m + 1):=Nat.mul_succ _ _;refine ⟨λe he=>?_,lZ g2,Nat.le_trans xa (by omega)⟩;have:=uq hp g1 gt (by omega) e he;exact ⟨this.1,this.2.1.mono (by omega),this.2.2.mono (by omega)⟩
noncomputable abbrev iZ (ks:List Int):List Key:=ks.map Sum.inl
theorem iG (ks:List Int):(iZ ks).map kV=ks.map V.int:=by unfold iZ; rw [List.map_map]; rfl
theorem mR {a b:List Int}(h:iZ a=iZ b):a=b:=by
 have e:(iZ a).map kV=(iZ b).map kV:=by rw [h]
 rw [iG,iG] at e
 have inj:∀ {x y:List Int},x.map V.int=y.map V.int->x=y:=by
  intro x
  induction x with
  | nil=>intro y h; cases y with
    | nil=>rfl
    | cons c y=>simp at h
  | cons b x ih=>intro y h; cases y with
    | nil=>simp at h
    | cons c y =>
      rw [List.map_cons,List.map_cons] at h
      injection h with h1 h2
      injection h1 with h1
      rw [h1,ih h2]
 exact inj e
noncomputable def Ct (H:Hp)(y:V)(t:Tm):Prop:=∃ a pr nu,y = .ref a/\H a=some (.tup [.ref pr,.ref nu])/\H pr=some (.tup (t.1.map V.int))/\H nu=some (bD t.2.1 t.2.2)
noncomputable abbrev aH (H:Hp):List V->List Tm->Prop:=Paired (Ct H)
noncomputable abbrev DR (H:Hp):List (List Key × V)->List Tm->Prop:=Paired λkv e=>kv.1=iZ e.1/\∃ a,kv.2 = .ref a/\H a=some (bD e.2.1 e.2.2)
noncomputable def ay (H H':Hp):Prop:=∀ b xs,H b=some (.tup xs)->H' b=some (.tup xs)
theorem ay.of {H H':Hp}(s:aB H H'):ay H H':=λb xs e=>s b _ e
theorem ay.trans {H H1 H2:Hp}(a:ay H H1)(b:ay H1 H2):ay H H2:=λc xs e=>b c xs (a c xs e)
theorem ay.upd {H:Hp}{d:Addr}{o:HO}(h:∀ xs,H d≠some (.tup xs)):ay H (upd H d o):=λb xs e=>by
 have:b≠d:=λz=>h xs (z ▸ e);rw [ao this]; exact e
theorem Ct.keep {H H':Hp}{y:V}{t:Tm}(h:Ct H y t)(k:ay H H'):Ct H' y t:=let ⟨a,pr,nu,e,h1,h2,h3⟩:=h; ⟨a,pr,nu,e,k _ _ h1,k _ _ h2,k _ _ h3⟩
theorem aH.keep {H H':Hp}{ys:List V}{ts:List Tm}(h:aH H ys ts)(k:ay H H'):aH H' ys ts:=Paired.mapP h λ_ _ z=>z.keep k
theorem DR.keep {H H':Hp}{E9:List (List Key × V)}{d:List Tm}(h:DR H E9 d)(k:ay H H'):DR H' E9 d:=Paired.mapP h λ_ _ z=>⟨z.1,let ⟨a,e,h⟩:=z.2; ⟨a,e,k _ _ h⟩⟩
theorem tD {H:Hp}(k:List Int):∀ {E9:List (List Key × V)}{d:List Tm},DR H E9 d->d.any (λe=>decide (e.1=k))=false->ij E9 (iZ k)=none
 | _,_,.nil,_=>rfl
 | _,_,.cons (a:=kv) (b:=e) h t,q=>by
   rw [List.any_cons,Bool.or_eq_false_iff] at q
   have ne:¬ kv.1=iZ k:=λz=>by
    have:e.1=k:=mR (h.1.symm.trans z);simp [this] at q
   rw [fH ne];exact tD k t q.2
theorem jv {H:Hp}(k:List Int):∀ {E9:List (List Key × V)}{d:List Tm},DR H E9 d->d.any (λe=>decide (e.1=k))=true->∃ e∈d,e.1=k/\∃ a,ij E9 (iZ k)=some (.ref a)/\H a=some (bD e.2.1 e.2.2)
 | _,_,.nil,q=>by simp at q
 | _,_,.cons (a:=kv) (b:=e) h t,q=>by
   by_cases z:e.1=k
   ·obtain ⟨a,e1,ha⟩:=h.2;refine ⟨e,List.mem_cons_self,z,a,?_,ha⟩;rw [hU (by rw [h.1,z]),e1]
   ·have ne:¬ kv.1=iZ k:=λw=>z (mR (h.1.symm.trans w));rw [List.any_cons,decide_eq_false z,Bool.false_or] at q;obtain ⟨e',m,z',a,h1,h2⟩:=jv k t q;exact ⟨e',List.mem_cons_of_mem _ m,z',a,by rw [fH ne]; exact h1,h2⟩
theorem Bf {H:Hp}(k:List Int){E9:List (List Key × V)}{d:List Tm}(h:DR H E9 d):(E9.any λkv=>decide (kv.1=iZ k))=d.any λe=>decide (e.1=k):=by
 rw [jE]
 cases q:d.any λe=>decide (e.1=k) with
 | false=>rw [tD k h q]; rfl
 | true =>
   obtain ⟨_,_,_,a,e,_⟩:=jv k h q;rw [e]; rfl
theorem vI {H:Hp}{p:Int}{t:Tm}{a:Addr}{E9:List (List Key × V)}{d:List Tm}(h:DR H E9 d)(nd:(d.map (·.1)).Nodup)
 (Jm:d.any (λe=>decide (e.1=t.1))=false->H a=some (bD t.2.1 t.2.2))(GY:∀ e∈d,e.1=t.1->H a=some (bD (dm p e.2 t.2).1 (dm p e.2 t.2).2)):DR H (eW E9 (iZ t.1) (.ref a)) (cX p d t):=by
 unfold eW cX;rw [Bf t.1 h]
 by_cases q:d.any (λe=>decide (e.1=t.1))=true
 ·rw [if_pos q,if_pos q]
  have go:∀ {E9:List (List Key × V)}{d:List Tm},DR H E9 d->(∀ e∈d,e.1=t.1->H a=some (bD (dm p e.2 t.2).1 (dm p e.2 t.2).2)) →
   DR H (E9.map λkv=>if kv.1=iZ t.1 then (kv.1,V.ref a) else kv) (d.map λe=>if e.1=t.1 then (e.1,dm p e.2 t.2) else e):=by
   intro E9 d h
   induction h with
   | nil=>intro _; exact .nil
   | @cons kv e ks es h0 ht ih =>
     intro hy;rw [List.map_cons,List.map_cons];refine .cons ?_ (ih λe' m=>hy e' (List.mem_cons_of_mem _ m))
     by_cases z:e.1=t.1
     ·rw [if_pos z,if_pos (by rw [h0.1,z])];exact ⟨h0.1,a,rfl,hy e List.mem_cons_self z⟩
     ·rw [if_neg z,if_neg (λw=>z (mR (h0.1.symm.trans w)))];exact h0
  exact go h GY
 ·have q':d.any (λe=>decide (e.1=t.1))=false:=Bool.eq_false_iff.mpr q;rw [if_neg q,if_neg q];exact Paired.snoc h ⟨rfl,a,rfl,Jm q'⟩
noncomputable abbrev wg:Stmt:=(aZ 23)
structure Gth (p:Int)(ts:List Tm):Prop where
 len:ts.length < 4000
 num:∀ t∈ts,Gn p 4000 t.2
 steps:∀ i,i<=ts.length->lL p 4000 (aN p (ts.take i))
 few:(aN p ts).length < 64
noncomputable def nM (C:Addr):Sp:=λvs H Q _=>∃ (s dx l:Addr)(p:Int)(ys:List V)(ts:List Tm),vs=[.ref s,.ref l]/\H s=some (.ins C dx (eI p))/\FP p/\H l=some (.lst ys)/\aH H ys ts/\Gth p ts /\
 ∀ H' D zs,aB H H'->H D=none->H' D=some (.lst zs)->aH H' zs (dW (aN p ts))->Q (.ref D) H'
theorem none_of {H H':Hp}{a:Addr}(s:aB H H')(h:H' a=none):H a=none:=by
 cases e:H a with
 | none=>rfl
 | some o=>rw [s _ _ e] at h; cases h
theorem iw:FnScope ["field","terms","totals","product","number","kept"] ["field","terms"] (aq wg):=dX (by decide +kernel)
theorem lW {α β:Type}{R:α->β->Prop}{k:Ky}{x:α}{y:β}(h:R x y):∀ {l:List (Ky × α)}{m:List (Ky × β)},Paired (λa b=>a.1=b.1/\R a.2 b.2) l m->Paired (λa b=>a.1=b.1/\R a.2 b.2) (lh k x l) (lh k y m)
 | _,_,.nil=>.cons ⟨rfl,h⟩ .nil
 | _,_,.cons (a:=(j,u)) (b:=(j',v)) (l₁:=r) (l₂:=r') h0 t=>by
   obtain ⟨e,h1⟩:=h0;have e:j=j':=e;subst e;show Paired _ (if kJ k j=true then (k,x):: (j,u):: r else (j,u):: lh k x r) (if kJ k j=true then (k,y):: (j,v):: r' else (j,v):: lh k y r')
   by_cases z:kJ k j=true
   ·rw [if_pos z,if_pos z]; exact .cons ⟨rfl,h⟩ (.cons ⟨rfl,h1⟩ t)
   ·rw [if_neg z,if_neg z]; exact .cons ⟨rfl,h1⟩ (lW h t)
theorem gA {α β:Type}{R:α->β->Prop}:∀ {l:List (Ky × α)}{m:List (Ky × β)},Paired (λa b=>a.1=b.1/\R a.2 b.2) l m->Paired (λa b=>a.1=b.1/\R a.2 b.2) (cO l) (cO m)
 | _,_,.nil=>.nil
 | _,_,.cons (a:=(j,u)) (b:=(j',v)) (l₁:=r) (l₂:=r') h0 t=>by
   obtain ⟨e,h1⟩:=h0;have e:j=j':=e;subst e;exact lW h1 (gA t)
theorem jL {α β:Type}{R:α->β->Prop}:∀ {l:List (Ky × α)}{m:List (Ky × β)},Paired (λa b=>a.1=b.1/\R a.2 b.2) l m->Paired R (l.map (·.2)) (m.map (·.2))
 | _,_,.nil=>.nil
 | _,_,.cons h t=>.cons h.2 (jL t)
theorem jn {R:V->Tm->Prop}:∀ {xs:List V}{es:List Tm},Paired R xs es->Paired (λa b=>a.1=b.1/\R a.2 b.2) ((es.map en).zip xs) (es.map λe=>(en e,e))
 | _,_,.nil=>.nil
 | _,_,.cons h t=>.cons ⟨rfl,h⟩ (jn t)
theorem lO:∀ {xs:List V}{es:List Tm}{H:Hp}{R:List V->Hp->Prop},aH H xs es →
 (∀ ks H2,aB H H2->Paired (λx e=>∃ a b,x = .ref a/\H2 a=some (.tup [.int e.1.length,.ref b])/\H2 b=some (.tup (e.1.map V.int))) ks es->R ks H2)->lj spPlaceOf xs H R
 | _,_,H,R,.nil,h=>h [] H (aB.refl _) .nil
 | _,_,H,R,.cons (b:=e) h0 t,h=>by
   obtain ⟨a,pr,nu,rfl,ha,FA,Fx⟩:=h0;refine ⟨a,pr,.ref nu,_,rfl,ha,FA,λtt To=>?_⟩;rw [List.length_map];have sU:aB H (upd H tt (.tup [.int e.1.length,.ref pr])):=av To;refine lO (aH.keep t (ay.of sU)) λks H2 s2 hk=>h _ H2 (λb u z=>s2 _ _ (sU _ _ z)) (.cons ⟨tt,pr,rfl,s2 _ _ ah,s2 _ _ (sU _ _ FA)⟩ hk)
theorem oR {K:Frag}{H:Hp}:∀ {ks:List V}{es:List Tm},Paired (λx e=>∃ a b,x = .ref a/\H a=some (.tup [.int e.1.length,.ref b])/\H b=some (.tup (e.1.map V.int))) ks es->cV K H ks (es.map en)
 | _,_,.nil=>True.intro
 | _,_,.cons h t=>by
   obtain ⟨a,b,rfl,h1,h2⟩:=h;exact ⟨⟨a,b,[],rfl,a9.of h1,a9.of h2⟩,oR t⟩
theorem tX {d:List Tm}(h:(d.map (·.1)).Nodup)(f:Tm->Bool):((d.filter f).map en).Nodup:=by
 have h1:((d.filter f).map (·.1)).Nodup:=h.sublist (List.filter_sublist.map _)
 have e:(d.filter f).map en=((d.filter f).map (·.1)).map λk=>((k.length:Int),k):=by rw [List.map_map]; rfl
 rw [e];unfold List.Nodup at h1 |-;rw [List.pairwise_map];exact h1.imp λh z=>h (Prod.mk.inj z).2
theorem gK {d:List Tm}(h:(d.map (·.1)).Nodup):∀ {e e':Tm},e∈d->e'∈d->e.1=e'.1->e=e':=by
 induction d with
 | nil=>intro e e' h1; exact nomatch h1
 | cons a d ih =>
   rw [List.map_cons,List.nodup_cons] at h;intro e e' h1 h2 z
   rcases List.mem_cons.mp h1 with h3 | h3
   ·rcases List.mem_cons.mp h2 with h4 | h4
    ·rw [h3,h4]
    ·exact absurd (by rw [<-h3,z]; exact List.mem_map_of_mem (f:=(·.1)) h4) h.1
   ·rcases List.mem_cons.mp h2 with h4 | h4
    ·exact absurd (by rw [<-h4,<-z]; exact List.mem_map_of_mem (f:=(·.1)) h3) h.1
    ·exact ih h.2 h3 h4 z
variable {P:Program}{w:World}{K:PySem.W.Frag}{mg:Str->Option Value}{base:Heap}
theorem zz {f fp fo C:Addr}{fd Hm NI:FuncData}(F:Fun K "gathered" "gathered" wg f fd)(c:FieldK K mg C)(Ff:mg "sorted"=none)
 (IZ:FnOk P w K mg base (aV P w) 4 fp Hm ["self","one","other"] (n9 C jP))(Ja:L2.aA K Hm ["self","one","other"] [])(Jb:L2.Meth K C "plus" fp)
 (ZI:FnOk P w K mg base (aV P w) 1 fo NI ["term"] spPlaceOf)(ZJ:L2.aA K NI ["term"] [])(ZK:mg "place_of_term"=some (.ref fo)):FnOk P w K mg base (aV P w) 5 f fd ["field","terms"] (nM C):=by
 refine F.okN iw (λvs H Q E h=>?_) (λFb A outer s H vs Q E hr h=>?_)
 ·obtain ⟨s,dx,l,p,ys,ts,rfl,_⟩:=h;rfl
 ·obtain ⟨s0,dx,l,p,ys,ts,rfl,hs,hp,hl,JV,G,q⟩:=h;have h64:=G.len;have hG:=G.num;have GP:Room 4 _:=hr.mono (by decide);have Tp:Room 3 _:=hr.mono (by decide);have hu:=(hr.units:_ + 64 < cLine)
  replace hu:=Nat.lt_of_le_of_lt (Nat.add_le_add_left (by decide:1<=64) _) hu
  refine ⟨_,(ak (@aY _ _ 2 _ _ _ _ iw.nd rfl (Or.inl rfl) pZ rfl (Or.inl rfl))
   (ak (gB PassesOwn.never rfl (dF (pv 1)) (cZ rfl (aE (aG (i:=3) iw.nd rfl (Or.inl rfl)) (aE (aG (i:=4) iw.nd rfl (Or.inl rfl)) cj)))
   (ak (bg (xb (B8 hu (pv 3) (pv 2))) (ar (@aY _ _ 4 _ _ _ _ iw.nd rfl (Or.inl rfl) (aX (pv 0) c.cl Jb IZ GP Ja .nil ae (@ai _ _ _ _ _ (nk hu (pv 2) (pv 3) (λ_ _=>rfl)) (@ai _ _ _ _ _ (pv 4) af rfl) rfl)) rfl (Or.inl rfl))) aD)
   (ar (se hu (pv 2) (pv 3) (pv 4) (by rfl)))))
   (ak (tE (i:=5) (g:=i6 K 2 (cq (bO 0) (cq (bO 1) gNil))) (N:=["product","number"]) (nl:=2) (js:=[]) (osc:=aq wg) ⟨rfl,rfl,by decide +kernel,by decide +kernel,by decide +kernel,rfl,.nil,by decide +kernel⟩ rfl iw.nd rfl (Or.inl rfl)
    (xO (pv 2))
    (λC fp s H=>(cZ (X:=cp _ ["product","number"] _ C fp s H) rfl (aE (aG (X:=cp _ ["product","number"] _ C fp s H) (i:=0) (by show (["product","number"]:List Str).Nodup; decide +kernel) rfl (Or.inl rfl) (Or.inr rfl)) (aE (aG (X:=cp _ ["product","number"] _ C fp s H) (i:=1) (by show (["product","number"]:List Str).Nodup; decide +kernel) rfl (Or.inl rfl) (Or.inr rfl)) cj))))
    (λC fp s H=>(nJ (@aQ _ _ _ _ _ _ _ _ gm (@aS _ _ _ _ _ _ _ (show DO _ (CS K) from a7) (pv 1) aj (λ_ _=>rfl)) aj (aI _))))
    (λC fp s H=>(@bV _ _ _ _ _ (@ai _ _ _ _ _ (pv 0) (@ai _ _ _ _ _ (pv 1) af rfl) rfl))) (by rfl))
   (ar (az (xR ZI Tp ZJ (by rfl) Ff (by rfl) ZK (pv 5))))))),?_⟩
  have hlen:=JV.length
  have gg:∀ i,i<=ts.length->lL p 4000 (aN p (ts.take i))/\((aN p (ts.take i)).map (·.1)).Nodup/\(aN p (ts.take i)).length<=i:=λi hi=>by
   obtain ⟨_,g2,g3⟩:=il (m:=4000) hp i (ts.take i) (by simp; omega) λt ht=>hG t (List.mem_of_mem_take ht);exact ⟨G.steps i hi,g2,g3⟩
  refine λdd GB=>?_;have s1:aB H (upd H dd (.dT [])):=av GB;refine ⟨_,rfl,l,rfl,⟨ys,bu.of (s1 _ _ hl)⟩,?_⟩
  refine ⟨λi m σ' H'=>m=ts.length - i/\i<=ts.length/\aB H H'/\(∃ E9,H' dd=some (.dT E9)/\DR H' E9 (aN p (ts.take i)))/\∃ o3 o4,σ'=[some (.ref s0),some (.ref l),some (.ref dd),o3,o4,none],
   ⟨ts.length,by simp,Nat.zero_le _,s1,⟨[],ah,.nil⟩,none,none,rfl⟩,?_⟩
  rintro i m' σ' H' ⟨rfl,hi,sH,⟨E9,hd,dr⟩,o3,o4,rfl⟩;have Gu:=sH _ _ hl;have JT:=sH _ _ hs;obtain ⟨gd,Jc,gl⟩:=gg i hi
  by_cases Fd:i < ts.length
  ·have Tq:i < ys.length:=by omega
   refine .inr ⟨⟨ys,ys[i],bu.of Gu,by simp [Tq]⟩,λσ' H'=>i + 1<=ts.length/\aB H H'/\(∃ E9,H' dd=some (.dT E9)/\DR H' E9 (aN p (ts.take (i + 1))))/\∃ o3 o4,σ'=[some (.ref s0),some (.ref l),some (.ref dd),o3,o4,none],?_,λy H2 hy=>?_⟩
   ·rintro σ' H' ⟨h1,h2,h3,h4⟩;exact ⟨ts.length - (i + 1),by omega,rfl,h1,h2,h3,h4⟩
   ·obtain ⟨rfl,hy⟩:=hy;obtain ⟨t,et,tr⟩:=bH JV (hy ys (bu.of Gu));obtain ⟨a,pr,nu,rfl,ha,FA,Fx⟩:=tr.keep (ay.of sH);have gt:=hG t (List.mem_of_getElem? et)
    have Gh:ts.take (i + 1)=ts.take i++[t]:=by rw [List.take_add_one,et]; rfl
    have GF:∀ H3:Hp,ay H2 H3->H3 pr=some (.tup ((iZ t.1).map kV)):=λH3 k=>by rw [iG]; exact k _ _ FA
    have fin:∀ (H3:Hp)(an:Addr),aB H H3->ay H2 H3->H3 dd=some (.dT E9)->((aN p (ts.take i)).any (λe=>decide (e.1=t.1))=false->H3 an=some (bD t.2.1 t.2.2)) →
     (∀ e∈aN p (ts.take i),e.1=t.1->H3 an=some (bD (dm p e.2 t.2).1 (dm p e.2 t.2).2)) →
     aB H (upd H3 dd (.dT (eW E9 (iZ t.1) (.ref an))))/\∃ Ii,(upd H3 dd (.dT (eW E9 (iZ t.1) (.ref an)))) dd=some (.dT Ii)/\DR (upd H3 dd (.dT (eW E9 (iZ t.1) (.ref an)))) Ii (aN p (ts.take (i + 1))):=by
     intro H3 an s3 k3 h3 Jm GY;refine ⟨λb u e=>by rw [ao (au e GB)]; exact s3 b u e,_,ah,?_⟩;rw [Gh,iH];exact (vI (dr.keep k3) Jc Jm GY).keep (ay.upd λxs z=>by rw [h3] at z; cases z)
    have Ij:E9.length < sizeLine:=by
     rw [dr.length];exact Nat.lt_of_le_of_lt gl (Nat.lt_trans (Nat.lt_of_le_of_lt hi h64) (by decide))
    refine ⟨a,_,rfl,a9.of ha,rfl,_,_,rfl,_,_,rfl,rfl,?_⟩;refine ⟨_,rfl,_,rfl,dd,_,rfl,iN.t hd (GF _ λ_ _ e=>e),_,rfl,?_⟩
    cases hq:(aN p (ts.take i)).any (λe=>decide (e.1=t.1)) with
    | false =>
      rw [tD t.1 dr hq];refine bF ?_;refine ⟨_,rfl,_,rfl,_,rfl,dd,_,rfl,oV.t hd (GF _ λ_ _ e=>e) Ij,?_⟩
      obtain ⟨f1,f2⟩:=fin H2 nu sH (λ_ _ e=>e) hd (λ_=>Fx) λe he z=>by
       have:(aN p (ts.take i)).any (λe=>decide (e.1=t.1))=true:=List.any_eq_true.mpr ⟨e,he,by simpa using z⟩;rw [hq] at this; cases this
      exact ⟨Fd,f1,f2,_,_,rfl⟩
    | true =>
      obtain ⟨e,he,ek,a0,hv,Tr⟩:=jv t.1 dr hq;rw [hv];refine cb ?_;have ge:=gd e he
      refine ⟨_,rfl,s0,dx,_,rfl,JT,rfl,_,rfl,_,rfl,dd,_,rfl,(by rw [<-hv]; exact iN.t hd (GF _ λ_ _ e=>e)),_,rfl,s0,dx,a0,nu,p,e.2.1,e.2.2,t.2.1,t.2.2,rfl,JT,hp,Tr,Fx,
       ge.2.1,ge.2.2,gt.2.1,gt.2.2,ge.ne,gt.ne,λa1 Ho=>?_⟩
      have sU:aB H2 (upd H2 a1 (bD (dm p e.2 t.2).1 (dm p e.2 t.2).2)):=av Ho;refine ⟨_,rfl,_,rfl,_,rfl,dd,_,rfl,oV.t (sU _ _ hd) (GF _ (ay.of sU)) Ij,?_⟩
      obtain ⟨f1,f2⟩:=fin _ a1 (λb u z=>sU _ _ (sH _ _ z)) (ay.of sU) (sU _ _ hd) (λz=>by rw [hq] at z; cases z) λe' Ik z=>by
       have:e'=e:=gK Jc Ik he (z.trans ek.symm);subst this;exact ah
      exact ⟨Fd,f1,f2,_,_,rfl⟩
  ·have ei:i=ts.length:=by omega
   subst ei;refine .inl ⟨⟨ys,bu.of Gu,by omega⟩,?_⟩;rw [List.take_length] at dr gd Jc gl;refine ⟨_,rfl,dd,E9,rfl,.inr ⟨hd,λo=>?_⟩⟩
   have sF:aB H (upd H' dd (nV o E9)):=λb u e=>by rw [ao (au e GB)]; exact sH b u e
   have Ts:DR (upd H' dd (nV o E9)) E9 (aN p ts):=dr.keep (ay.upd λxs z=>by rw [hd] at z; cases z);have kl:E9.length=(aN p ts).length:=dr.length
   refine ⟨λi m xs σ' H2=>m=(aN p ts).length - i/\i<=(aN p ts).length/\aB H H2/\H2 dd=some (nV o E9)/\DR H2 E9 (aN p ts)/\aH H2 xs (((aN p ts).take i).filter λe=>e.2.1 != 0)/\∃ o1 o2,σ'=[o1,o2],
    ⟨(aN p ts).length,by simp,Nat.zero_le _,sF,ah,Ts,.nil,none,none,rfl⟩,?_⟩
   rintro i m' xs σ' H2 ⟨rfl,ZL,s2,hd2,JW,Hk,o1,o2,rfl⟩
   have xl:xs.length<=(aN p ts).length:=by
    rw [Hk.length];exact Nat.le_trans (List.length_filter_le _ _) (by simp; omega)
   refine ⟨Nat.lt_of_le_of_lt (Nat.le_trans xl gl) (Nat.lt_trans h64 (by decide)),?_⟩
   by_cases Il:i < (aN p ts).length
   ·refine .inr ⟨⟨by omega,hd2⟩,λx H3 hx=>?_⟩;obtain ⟨pp,b,k,v,hk,SX,hb,rfl,rfl⟩:=hx;obtain ⟨e,ee,ek,a,ev,ha⟩:=bH JW hk;have ek:k=iZ e.1:=ek;have ev:v = .ref a:=ev;subst ek;subst ev;have sP:aB H2 (upd H2 pp (.tup [.ref b,.ref a])):=av SX
    have Gh:(aN p ts).take (i + 1)=(aN p ts).take i++[e]:=by rw [List.take_add_one,ee]; rfl
    rw [iG] at hb;refine ⟨pp,_,rfl,a9.of ah,rfl,_,_,rfl,_,_,rfl,rfl,?_⟩;refine ⟨_,rfl,a,_,0,_,rfl,rfl,a9.of (sP _ _ ha),rfl,rfl,_,rfl,?_⟩;have dP:upd H2 pp (.tup [.ref b,.ref a]) dd=some (nV o E9):=sP _ _ hd2
    cases hz:(e.2.1 != 0) with
    | true =>
      have z:(!decide (V.int e.2.1=V.int 0))=true:=by
       have:e.2.1≠0:=by simpa using hz
       simp [this]
      rw [z];refine cb ⟨_,rfl,_,rfl,kZ,λt' NJ=>?_⟩;have sT:aB (upd H2 pp (.tup [.ref b,.ref a])) (upd (upd H2 pp (.tup [.ref b,.ref a])) t' (.tup [.ref b,.ref a])):=av NJ;have sA:aB H2 (upd (upd H2 pp (.tup [.ref b,.ref a])) t' (.tup [.ref b,.ref a])):=λc u e=>sT _ _ (sP _ _ e);refine ⟨(aN p ts).length - (i + 1),by omega,rfl,Il,λc u e=>sA _ _ (s2 _ _ e),sA _ _ hd2,JW.keep (ay.of sA),?_,_,_,rfl⟩;rw [Gh,List.filter_append]
      have ef:[e].filter (λe=>e.2.1 != 0)=[e]:=by simp [hz]
      rw [ef];exact Paired.snoc (aH.keep Hk (ay.of sA)) ⟨t',b,a,rfl,ah,sA _ _ hb,sA _ _ ha⟩
    | false =>
      have z:(!decide (V.int e.2.1=V.int 0))=false:=by
       have:e.2.1=0:=by simpa using hz
       simp [this]
      rw [z];refine bF ⟨(aN p ts).length - (i + 1),by omega,rfl,Il,λc u e=>sP _ _ (s2 _ _ e),sP _ _ hd2,JW.keep (ay.of sP),?_,_,_,rfl⟩;rw [Gh,List.filter_append]
      have ef:[e].filter (λe=>e.2.1 != 0)=[]:=by simp [hz]
      rw [ef,List.append_nil];exact aH.keep Hk (ay.of sP)
   ·have Tt:i=(aN p ts).length:=by omega
    subst Tt;refine .inl ⟨⟨by omega,hd2⟩,λD hD=>?_⟩;rw [List.take_length] at Hk;have sD:aB H2 (upd H2 D (.lst xs)):=av hD;refine ⟨_,rfl,D,xs,rfl,bu.of ah,Nat.lt_of_le_of_lt xl G.few,?_⟩;refine lO (aH.keep Hk (ay.of sD)) λks H3 s3 hk=>?_;refine ⟨_,oR hk,tX Jc _,λD2 MH=>?_⟩;have sE:aB H3 (upd H3 D2 (.lst ((cO ((((aN p ts).filter λe=>e.2.1 != 0).map en).zip xs)).map (·.2)))):=av MH;refine q _ D2 _ (λc u e=>sE _ _ (s3 _ _ (sD _ _ (s2 _ _ e)))) (none_of (λc u e=>s3 _ _ (sD _ _ (s2 _ _ e))) MH) ah ?_;have Jd:aH H3 xs ((aN p ts).filter λe=>e.2.1 != 0):=aH.keep Hk (ay.of λc u e=>s3 _ _ (sD _ _ e));exact aH.keep (jL (gA (jn Jd))) (ay.of sE)
noncomputable abbrev mD:Stmt:=(aZ 48)
noncomputable def spLGath:Sp:=λvs H Q _=>∃ (l:Addr)(p:Int)(ys:List V)(ts:List Tm),vs=[.int p,.ref l]/\FP p/\H l=some (.lst ys)/\aH H ys ts/\Gth p ts /\
 ∀ H' D zs,aB H H'->H' D=some (.lst zs)->aH H' zs (dW (aN p ts))->Q (.ref D) H'
theorem hX:FnScope ["_law_prime_here","_law_terms_here","_law_found","_law_product_here","_law_number_here","_law_rows"] ["_law_prime_here","_law_terms_here"] (aq mD):=dX (by decide +kernel)
noncomputable def zX (H:Hp)(x:V)(e:Tm):Prop:=∃ t b a,x = .ref t/\H t=some (.tup [.int e.1.length,.ref b,.ref a])/\H b=some (.tup (e.1.map V.int))/\H a=some (bD e.2.1 e.2.2)
theorem zX.keep {H H':Hp}{y:V}{t:Tm}(h:zX H y t)(k:ay H H'):zX H' y t:=let ⟨a,pr,nu,e,h1,h2,h3⟩:=h; ⟨a,pr,nu,e,k _ _ h1,k _ _ h2,k _ _ h3⟩
noncomputable abbrev gk (H:Hp):List V->List Tm->Prop:=Paired (zX H)
theorem gk.keep {H H':Hp}{ys:List V}{ts:List Tm}(h:gk H ys ts)(k:ay H H'):gk H' ys ts:=Paired.mapP h λ_ _ z=>z.keep k
theorem mj {K:Frag}{H:Hp}:∀ {ks:List V}{es:List Tm},gk H ks es->cV K H ks (es.map en)
 | _,_,.nil=>True.intro
 | _,_,.cons h t=>by
   obtain ⟨t0,b,a,rfl,h1,h2,h3⟩:=h;exact ⟨⟨t0,b,[.ref a],rfl,a9.of h1,a9.of h2⟩,mj t⟩
theorem vY {f fl:Addr}{fd FK:FuncData}(F:Fun K "_law_gather" "_law_gather" mD f fd)(Ff:mg "sorted"=none)(m_len:mg "len"=none)
 (ZM:FnOk P w K mg base (aV P w) 3 fl FK ["_law_prime_here","_law_one","_law_other"] (jQ jP))(ZN:L2.aA K FK ["_law_prime_here","_law_one","_law_other"] [])(ZO:mg "_law_plus"=some (.ref fl))(ZP:keepIn K (.ref fl)=true):
 FnOk P w K mg base (aV P w) 4 f fd ["_law_prime_here","_law_terms_here"] spLGath:=by
 refine F.okN hX (λvs H Q E h=>?_) (λFb A outer s H vs Q E hr h=>?_)
 ·obtain ⟨l,p,ys,ts,rfl,_⟩:=h;rfl
 ·obtain ⟨l,p,ys,ts,rfl,hp,hl,JV,G,q⟩:=h;have h64:=G.len;have hG:=G.num;have Gg:Room 3 _:=hr.mono (by decide);have Tp:Room (1 + 2) _:=hr.mono (by decide);have FF:Room 1 _:=hr.mono (by decide);have hu:=(hr.units:_ + 64 < cLine)
  replace hu:=Nat.lt_of_le_of_lt (Nat.add_le_add_left (by decide:1<=64) _) hu
  refine ⟨_,(ak (@aY _ _ 2 _ _ _ _ hX.nd rfl (Or.inr rfl) pZ rfl (Or.inl rfl))
   (ak (gB PassesOwn.never rfl (dF (pv 1)) (cZ rfl (aE (aG (i:=3) hX.nd rfl (Or.inl rfl)) (aE (aG (i:=4) hX.nd rfl (Or.inl rfl)) cj)))
   (ar (se hu (pv 2) (pv 3) (ax ZM Gg (by rfl) ZO ZP ZN .nil ae (@ai _ _ _ _ _ (pv 0) (@ai _ _ _ _ _ (wI hu (pv 2) (pv 3) (@bV _ _ _ _ _ (@ai _ _ _ _ _ aj (@ai _ _ _ _ _ aj af rfl) rfl)) ⟨rfl,rfl,rfl,rfl⟩) (@ai _ _ _ _ _ (pv 4) af rfl) rfl) rfl)) (by rfl))))
   (ak (tE (i:=5) (N:=["_law_product_here","_law_found"]) (nl:=1) (js:=[2]) (osc:=aq mD) ⟨rfl,rfl,by decide +kernel,by decide +kernel,by decide +kernel,rfl,(.cons ⟨rfl,by decide +kernel⟩ .nil),by decide +kernel⟩ rfl hX.nd rfl (Or.inl rfl)
    (Ae (pv 2))
    (λC fp s H=>aG (i:=0) (by show (["_law_product_here","_law_found"]:List Str).Nodup; decide +kernel) rfl (Or.inl rfl) (Or.inr rfl))
    (λC fp s H=>(nJ (@aQ _ _ _ _ _ _ _ _ (show f9 _ _ (Ca K true) from wQ FF) (nk hu (pv 1) (pv 0) (λ_ _=>rfl)) (@bV _ _ _ _ _ (@ai _ _ _ _ _ aj (@ai _ _ _ _ _ aj af rfl) rfl)) (aI _))))
    (λC fp s H=>(@bV _ _ _ _ _ (@ai _ _ _ _ _ (aF (show eT _ _ (λxs H Q=>∃ p ys,xs=[.ref p]/\(bu K H p ys\/a9 K H p ys)/\Q (.int ys.length) H) from ck) (by rfl) m_len PySem.boot_len (@ai _ _ _ _ _ (pv 0) af rfl)) (@ai _ _ _ _ _ (pv 0) (@ai _ _ _ _ _ (nk hu (pv 1) (pv 0) (λ_ _=>rfl)) af rfl) rfl) rfl))) (by rfl))
   (ar (az (eX (g:=i6 K 3 (cq (bO 0) (cq (bO 1) (cq (bO 2) gNil)))) (N:=["_law_many","_law_product_here","_law_number_here"]) (nl:=3) (js:=[]) (osc:=aq mD) ⟨rfl,rfl,by decide +kernel,by decide +kernel,by decide +kernel,rfl,.nil,by decide +kernel⟩ rfl
    (dF (aF (n6 Tp) (by rfl) Ff (by rfl) (@ai _ _ _ _ _ (pv 5) af rfl)))
    (λC fp s H=>(cZ (X:=cp _ ["_law_many","_law_product_here","_law_number_here"] _ C fp s H) rfl (aE (aG (X:=cp _ ["_law_many","_law_product_here","_law_number_here"] _ C fp s H) (i:=0) (by show (["_law_many","_law_product_here","_law_number_here"]:List Str).Nodup; decide +kernel) rfl (Or.inl rfl) (Or.inr rfl)) (aE (aG (X:=cp _ ["_law_many","_law_product_here","_law_number_here"] _ C fp s H) (i:=1) (by show (["_law_many","_law_product_here","_law_number_here"]:List Str).Nodup; decide +kernel) rfl (Or.inl rfl) (Or.inr rfl)) (aE (aG (X:=cp _ ["_law_many","_law_product_here","_law_number_here"] _ C fp s H) (i:=2) (by show (["_law_many","_law_product_here","_law_number_here"]:List Str).Nodup; decide +kernel) rfl (Or.inl rfl) (Or.inr rfl)) cj)))))
    (λC fp s H=>d6)
    (λC fp s H=>(@bV _ _ _ _ _ (@ai _ _ _ _ _ (pv 1) (@ai _ _ _ _ _ (pv 2) af rfl) rfl))))))))),?_⟩
  have hlen:=JV.length
  have gg:∀ i,i<=ts.length->lL p 4000 (aN p (ts.take i))/\((aN p (ts.take i)).map (·.1)).Nodup/\(aN p (ts.take i)).length<=i:=λi hi=>by
   obtain ⟨_,g2,g3⟩:=il (m:=4000) hp i (ts.take i) (by simp; omega) λt ht=>hG t (List.mem_of_mem_take ht);exact ⟨G.steps i hi,g2,g3⟩
  have one:∀ {n:Nat}{a:Int × Int},Gn p n a->p≠0->a.2=1:=λh z=>(h.1.pr z).1;refine λdd GB=>?_;have s1:aB H (upd H dd (.dT [])):=av GB;refine ⟨_,rfl,l,rfl,⟨ys,bu.of (s1 _ _ hl)⟩,?_⟩
  refine ⟨λi m σ' H'=>m=ts.length - i/\i<=ts.length/\aB H H'/\(∃ E9,H' dd=some (.dT E9)/\DR H' E9 (aN p (ts.take i)))/\∃ o3 o4,σ'=[some (.int p),some (.ref l),some (.ref dd),o3,o4,none],
   ⟨ts.length,by simp,Nat.zero_le _,s1,⟨[],ah,.nil⟩,none,none,rfl⟩,?_⟩
  rintro i m' σ' H' ⟨rfl,hi,sH,⟨E9,hd,dr⟩,o3,o4,rfl⟩;have Gu:=sH _ _ hl;obtain ⟨gd,Jc,gl⟩:=gg i hi
  by_cases Fd:i < ts.length
  ·have Tq:i < ys.length:=by omega
   refine .inr ⟨⟨ys,ys[i],bu.of Gu,by simp [Tq]⟩,λσ' H'=>i + 1<=ts.length/\aB H H'/\(∃ E9,H' dd=some (.dT E9)/\DR H' E9 (aN p (ts.take (i + 1))))/\∃ o3 o4,σ'=[some (.int p),some (.ref l),some (.ref dd),o3,o4,none],?_,λy H2 hy=>?_⟩
   ·rintro σ' H' ⟨h1,h2,h3,h4⟩;exact ⟨ts.length - (i + 1),by omega,rfl,h1,h2,h3,h4⟩
   ·obtain ⟨rfl,hy⟩:=hy;obtain ⟨t,et,tr⟩:=bH JV (hy ys (bu.of Gu));obtain ⟨a,pr,nu,rfl,ha,FA,Fx⟩:=tr.keep (ay.of sH);have gt:=hG t (List.mem_of_getElem? et)
    have Gh:ts.take (i + 1)=ts.take i++[t]:=by rw [List.take_add_one,et]; rfl
    have GF:∀ H3:Hp,ay H2 H3->H3 pr=some (.tup ((iZ t.1).map kV)):=λH3 k=>by rw [iG]; exact k _ _ FA
    have fin:∀ (H3:Hp)(an:Addr),aB H H3->ay H2 H3->H3 dd=some (.dT E9)->((aN p (ts.take i)).any (λe=>decide (e.1=t.1))=false->H3 an=some (bD t.2.1 t.2.2)) →
     (∀ e∈aN p (ts.take i),e.1=t.1->H3 an=some (bD (dm p e.2 t.2).1 (dm p e.2 t.2).2)) →
     aB H (upd H3 dd (.dT (eW E9 (iZ t.1) (.ref an))))/\∃ Ii,(upd H3 dd (.dT (eW E9 (iZ t.1) (.ref an)))) dd=some (.dT Ii)/\DR (upd H3 dd (.dT (eW E9 (iZ t.1) (.ref an)))) Ii (aN p (ts.take (i + 1))):=by
     intro H3 an s3 k3 h3 Jm GY;refine ⟨λb u e=>by rw [ao (au e GB)]; exact s3 b u e,_,ah,?_⟩;rw [Gh,iH];exact (vI (dr.keep k3) Jc Jm GY).keep (ay.upd λxs z=>by rw [h3] at z; cases z)
    have Ij:E9.length < sizeLine:=by
     rw [dr.length];exact Nat.lt_of_le_of_lt gl (Nat.lt_trans (Nat.lt_of_le_of_lt hi h64) (by decide))
    refine ⟨a,_,rfl,a9.of ha,rfl,_,_,rfl,_,_,rfl,rfl,?_⟩;refine ⟨_,rfl,_,rfl,dd,rfl,.inr ⟨E9,.inl hd⟩,_,rfl,kZ,λt0 Tu=>?_⟩;have sZ:aB H2 (upd H2 t0 (.tup [.int 0,.int 1])):=av Tu;refine ⟨_,iN.t (sZ _ _ hd) (GF _ (ay.of sZ)),?_⟩
    cases hq:(aN p (ts.take i)).any (λe=>decide (e.1=t.1)) with
    | false =>
      rw [tD t.1 dr hq];refine ⟨_,rfl,p,0,1,t.2.1,t.2.2,t0,nu,rfl,hp,ah,sZ _ _ Fx,(by unfold B; decide),(by show (1:Nat) < 2 ^ 4000; exact Nat.one_lt_two_pow (by decide)),gt.2.1,gt.2.2,(by decide),gt.ne,λz=>by rw [one gt z]; decide,λH3 an s3 h3=>?_⟩;have ez:dm p (0,1) t.2=t.2:=vi hp gt
      have LG:H3 an=some (bD t.2.1 t.2.2):=by
       have:H3 an=some (bD (dm p (0,1) t.2).1 (dm p (0,1) t.2).2):=h3;rw [ez] at this;exact this
      have sA:aB H2 H3:=λb u e=>s3 _ _ (sZ _ _ e);refine ⟨_,rfl,_,rfl,dd,_,rfl,oV.t (sA _ _ hd) (GF _ (ay.of sA)) Ij,?_⟩
      obtain ⟨f1,f2⟩:=fin H3 an (λb u e=>sA _ _ (sH _ _ e)) (ay.of sA) (sA _ _ hd) (λ_=>LG) λe he z=>by
       have:(aN p (ts.take i)).any (λe=>decide (e.1=t.1))=true:=List.any_eq_true.mpr ⟨e,he,by simpa using z⟩;rw [hq] at this; cases this
      exact ⟨Fd,f1,f2,_,_,rfl⟩
    | true =>
      obtain ⟨e,he,ek,a0,hv,Tr⟩:=jv t.1 dr hq;rw [hv];have ge:=gd e he;refine ⟨_,rfl,p,e.2.1,e.2.2,t.2.1,t.2.2,a0,nu,rfl,hp,sZ _ _ Tr,sZ _ _ Fx,ge.2.1,ge.2.2,gt.2.1,gt.2.2,ge.ne,gt.ne,λz=>by rw [one gt z,one ge z]; decide,λH3 an s3 h3=>?_⟩;have sA:aB H2 H3:=λb u e=>s3 _ _ (sZ _ _ e);refine ⟨_,rfl,_,rfl,dd,_,rfl,oV.t (sA _ _ hd) (GF _ (ay.of sA)) Ij,?_⟩
      obtain ⟨f1,f2⟩:=fin H3 an (λb u e=>sA _ _ (sH _ _ e)) (ay.of sA) (sA _ _ hd) (λz=>by rw [hq] at z; cases z) λe' Ik z=>by
       have:e'=e:=gK Jc Ik he (z.trans ek.symm);subst this;exact h3
      exact ⟨Fd,f1,f2,_,_,rfl⟩
  ·have ei:i=ts.length:=by omega
   subst ei;refine .inl ⟨⟨ys,bu.of Gu,by omega⟩,?_⟩;rw [List.take_length] at dr gd Jc gl;refine ⟨_,rfl,dd,E9,rfl,.inr ⟨hd,λo=>?_⟩⟩
   have sF:aB H (upd H' dd (nV o E9)):=λb u e=>by rw [ao (au e GB)]; exact sH b u e
   have Ts:DR (upd H' dd (nV o E9)) E9 (aN p ts):=dr.keep (ay.upd λxs z=>by rw [hd] at z; cases z);have kl:E9.length=(aN p ts).length:=dr.length
   refine ⟨λi m xs σ' H2=>m=(aN p ts).length - i/\i<=(aN p ts).length/\aB H H2/\H2 dd=some (nV o E9)/\DR H2 E9 (aN p ts)/\gk H2 xs (((aN p ts).take i).filter λe=>e.2.1 != 0)/\∃ o1,σ'=[o1,some (.ref dd)],
    ⟨(aN p ts).length,by simp,Nat.zero_le _,sF,ah,Ts,.nil,none,rfl⟩,?_⟩
   rintro i m' xs σ' H2 ⟨rfl,ZL,s2,hd2,JW,Hk,o1,rfl⟩
   have xl:xs.length<=(aN p ts).length:=by
    rw [Hk.length];exact Nat.le_trans (List.length_filter_le _ _) (by simp; omega)
   refine ⟨Nat.lt_of_le_of_lt (Nat.le_trans xl gl) (Nat.lt_trans h64 (by decide)),?_⟩
   by_cases Il:i < (aN p ts).length
   ·refine .inr ⟨⟨by omega,hd2⟩,λx H3 hx=>?_⟩;obtain ⟨b,k,v,hk,hb,rfl,rfl⟩:=hx;obtain ⟨e,ee,ek,_⟩:=bH JW hk;have ek:k=iZ e.1:=ek;subst ek;have he:=List.mem_of_getElem? ee;have ge:=gd e he
    have Gh:(aN p ts).take (i + 1)=(aN p ts).take i++[e]:=by rw [List.take_add_one,ee]; rfl
    obtain ⟨e',Ik,ZQ,a,hv,ha⟩:=jv e.1 JW (List.any_eq_true.mpr ⟨e,he,by simp⟩);have:e'=e:=gK Jc Ik he ZQ;subst this;have dg:∀ H4:Hp,aB H3 H4->iN H4 dd (.ref b) (some (.ref a)):=λH4 s4=>.inr ⟨E9,iZ e'.1,b,.inr ⟨o,s4 _ _ hd2⟩,rfl,s4 _ _ hb,hv.symm⟩;have Fq:=hb;rw [iG] at Fq;refine ⟨_,rfl,_,rfl,dd,.ref a,rfl,dg _ (aB.refl _),kZ,λt0 Tu=>?_⟩;have sZ:aB H3 (upd H3 t0 (bD 0 1)):=av Tu;refine ⟨_,_,Bt (sZ _ _ ha),Bt ah,by rw [DB]; decide,_,rfl,?_⟩;rw [EK]
    cases hz:(e'.2.1 != 0) with
    | true =>
      have z:((e'.2.1 == 0&&e'.2.2 == 1) != true)=true:=by
       have:e'.2.1≠0:=by simpa using hz
       simp [this]
      rw [z];refine cb ⟨_,rfl,b,_,rfl,.inr (a9.of (sZ _ _ Fq)),_,rfl,_,rfl,_,rfl,dd,.ref a,rfl,dg _ sZ,EN,λt' NJ=>?_⟩;rw [List.length_map];have sT:aB (upd H3 t0 (bD 0 1)) (upd (upd H3 t0 (bD 0 1)) t' (.tup [.int e'.1.length,.ref b,.ref a])):=av NJ;have sA:aB H3 (upd (upd H3 t0 (bD 0 1)) t' (.tup [.int e'.1.length,.ref b,.ref a])):=λc u e=>sT _ _ (sZ _ _ e);refine ⟨(aN p ts).length - (i + 1),by omega,rfl,Il,λc u e=>sA _ _ (s2 _ _ e),sA _ _ hd2,JW.keep (ay.of sA),?_,_,rfl⟩;rw [Gh,List.filter_append]
      have ef:[e'].filter (λe=>e.2.1 != 0)=[e']:=by simp [hz]
      rw [ef];exact Paired.snoc (gk.keep Hk (ay.of sA)) ⟨t',b,a,rfl,ah,sA _ _ Fq,sA _ _ ha⟩
    | false =>
      have z:((e'.2.1 == 0&&e'.2.2 == 1) != true)=false:=by
       have h0:e'.2.1=0:=by simpa using hz
       have h1:e'.2.2=1:=by
        have g1:=ge.1.pos;have g2:=ge.1.red;rw [h0] at g2
        have:e'.2.2.natAbs=1:=by simpa using g2
        omega
       simp [h0,h1]
      rw [z];refine bF ⟨(aN p ts).length - (i + 1),by omega,rfl,Il,λc u e=>sZ _ _ (s2 _ _ e),sZ _ _ hd2,JW.keep (ay.of sZ),?_,_,rfl⟩;rw [Gh,List.filter_append]
      have ef:[e'].filter (λe=>e.2.1 != 0)=[]:=by simp [hz]
      rw [ef,List.append_nil];exact gk.keep Hk (ay.of sZ)
   ·have Tt:i=(aN p ts).length:=by omega
    subst Tt;refine .inl ⟨⟨by omega,hd2⟩,λD hD=>?_⟩;rw [List.take_length] at Hk;have sD:aB H2 (upd H2 D (.lst xs)):=av hD;have Jd:=gk.keep Hk (ay.of sD);refine ⟨_,rfl,D,xs,_,rfl,bu.of ah,Nat.lt_of_le_of_lt xl G.few,mj Jd,tX Jc _,λD2 MH=>?_⟩;have Tv:gk (upd H2 D (.lst xs)) ((cO ((((aN p ts).filter λe=>e.2.1 != 0).map en).zip xs)).map (·.2)) (dW (aN p ts)):=jL (gA (jn Jd));generalize (cO ((((aN p ts).filter λe=>e.2.1 != 0).map en).zip xs)).map (·.2)=zs at Tv |-;have zl:=Tv.length
    have tl:(dW (aN p ts)).length<=(aN p ts).length:=by
     unfold dW;rw [List.length_map,(cx _).length_eq,List.length_map];exact List.length_filter_le _ _
    have sE:aB (upd H2 D (.lst xs)) (upd (upd H2 D (.lst xs)) D2 (.lst zs)):=av MH;have W0:=gk.keep Tv (ay.of sE);have W2:aB H (upd (upd H2 D (.lst xs)) D2 (.lst zs)):=λc u e=>sE _ _ (sD _ _ (s2 _ _ e));have LF:upd (upd H2 D (.lst xs)) D2 (.lst zs) D2=some (.lst zs):=ah;generalize upd (upd H2 D (.lst xs)) D2 (.lst zs)=H4 at W0 W2 LF |-;refine ⟨D2,rfl,⟨zs,bu.of LF⟩,?_⟩;refine ⟨λi m us σ' H5=>m=zs.length - i/\i<=zs.length/\aB H4 H5/\aH H5 us ((dW (aN p ts)).take i)/\∃ o1 o2 o3,σ'=[o1,o2,o3],⟨zs.length,by simp,Nat.zero_le _,aB.refl _,.nil,none,none,none,rfl⟩,?_⟩;rintro i m' us σ' H5 ⟨rfl,hi5,s5,RJ,o1,o2,o3,rfl⟩
    have ul:us.length<=zs.length:=by
     rw [RJ.length];simp; omega
    refine ⟨Nat.lt_of_le_of_lt (Nat.le_trans ul (Nat.le_trans (Nat.le_of_eq zl) (Nat.le_trans tl gl))) (Nat.lt_trans h64 (by decide)),?_⟩;have NK:=s5 _ _ LF
    by_cases NL:i < zs.length
    ·refine .inr ⟨⟨zs,zs[i],bu.of NK,by simp [NL]⟩,λx H6 hx=>?_⟩;obtain ⟨rfl,hx⟩:=hx;obtain ⟨e,ee,er⟩:=bH W0 (hx zs (bu.of NK));obtain ⟨t0,b,a,rfl,h1,h2,h3⟩:=er.keep (ay.of s5)
     have Gh:(dW (aN p ts)).take (i + 1)=(dW (aN p ts)).take i++[e]:=by rw [List.take_add_one,ee]; rfl
     refine ⟨t0,_,rfl,a9.of h1,rfl,_,_,rfl,_,_,rfl,_,_,rfl,rfl,?_⟩;dsimp only [tYes];refine cb ⟨_,rfl,_,rfl,kZ,λt' NJ=>?_⟩;have sT:aB H6 (upd H6 t' (.tup [.ref b,.ref a])):=av NJ;refine ⟨zs.length - (i + 1),by omega,rfl,NL,λc u e=>sT _ _ (s5 _ _ e),?_,_,_,_,rfl⟩;rw [Gh];exact Paired.snoc (aH.keep RJ (ay.of sT)) ⟨t',b,a,rfl,ah,sT _ _ h2,sT _ _ h3⟩
    ·have ZR:i=zs.length:=by omega
     subst ZR;refine .inl ⟨⟨zs,bu.of NK,Nat.le_refl _⟩,λD3 Tw=>?_⟩;rw [zl,List.take_length] at RJ;have sL:aB H5 (upd H5 D3 (.lst us)):=av Tw;exact q _ D3 _ (λc u e=>sL _ _ (s5 _ _ (W2 _ _ e))) ah (aH.keep RJ (ay.of sL))
noncomputable abbrev nO:Stmt:=aU (aZ 26) 0
noncomputable def AD (ks:List Int):Prop:=jj (some (ks.map V.int))=true/\ks.length < 4000
theorem r6 {p t b:Int}(n:Num p t b):isN p (some (.int t,.int b))=true:=by
 unfold isN;dsimp only
 by_cases z:p=0
 ·rw [if_pos z,n.red];have:=n.pos;simp;omega
 ·rw [if_neg z];obtain ⟨h1,h2,h3⟩:=n.pr z;simp [h1,h2,h3]
theorem CU {p:Int}{n:Nat}{H:Hp}{y:V}{t:Tm}(h:Ct H y t)(g:Gn p n t.2)(pd:AD t.1):TmX p H y true:=by
 obtain ⟨a,pr,nu,rfl,ha,FA,Fx⟩:=h
 have e:TmX p H (.ref a) (jj (some (t.1.map V.int))&&isN p (some (.int t.2.1,.int t.2.2))):=.two ha (.tup FA (by rw [List.length_map]; exact pd.2) λy hy=>by
  obtain ⟨k,_,rfl⟩:=List.mem_map.mp hy
  exact ⟨_,.int k⟩) (.two Fx (.int _) (.int _))
 rw [pd.1,r6 g.1] at e;exact e
theorem xN {p:Int}{n:Nat}{H:Hp}:∀ {ys:List V}{ts:List Tm},aH H ys ts->(∀ t∈ts,Gn p n t.2/\AD t.1)->∀ y∈ys,TmX p H y true
 | _,_,.nil,_,y,hy=>nomatch hy
 | _,_,.cons h t,g,y,hy=>by
   rcases List.mem_cons.mp hy with rfl | hy
   ·exact CU h (g _ List.mem_cons_self).1 (g _ List.mem_cons_self).2
   ·exact xN t (λt ht=>g t (List.mem_cons_of_mem _ ht)) y hy
structure SumK (K:Frag)(mg:Str->Option Value)(C:Addr):Prop where
 cl:Cls K C
 nF:dI K C "its_field"
 nT:dI K C "its_terms"
 mgC:mg "Sum"=some (.ref C)
noncomputable def pG (fl D:Addr):List (Str × V):=[("its_field",.ref fl),("its_terms",.ref D)]
noncomputable def gY (C CF:Addr):Sp:=λvs H Q _=>∃ (s dx fl Fg:Addr)(p:Int)(x:V)(ts:List Tm),vs=[.ref s,.ref fl,x]/\H s=some (.ins C dx [])/\H fl=some (.ins CF Fg (eI p))/\FP p /\
 ((x = .non/\ts=[])\/∃ l ys,x = .ref l/\H l=some (.lst ys)/\aH H ys ts)/\Gth p ts/\(∀ t∈ts,AD t.1) /\
 ∀ H' D zs,SameBut s H H'->H D=none->H' s=some (.ins C dx (pG fl D))->H' D=some (.lst zs)->aH H' zs (dW (aN p ts))->Q .non H'
theorem yZ:FnScope ["self","field","terms"] ["self","field","terms"] (aq nO):=dX (by decide +kernel)
theorem wk {f fg fc C CF T:Addr}{fd Gq W3:FuncData}(F:FunD K "__init__" "Sum.__init__" nO f fd T)(c:SumK K mg C)
 (FG:FnOk P w K mg base (aV P w) 5 fg Gq ["field","terms"] (nM CF))(bG:L2.aA K Gq ["field","terms"] [])(mG:mg "gathered"=some (.ref fg))(kG:keepIn K (.ref fg)=true)
 (FC:FnOk P w K mg base (aV P w) 5 fc W3 ["field","terms"] (l5 CF))(bC:L2.aA K W3 ["field","terms"] [])(mC:mg "checked_terms"=some (.ref fc))(kC:keepIn K (.ref fc)=true):
 FnOk P w K mg base (aV P w) 6 f fd ["self","field","terms"] (gY C CF):=by
 refine F.okE yZ (λvs H Q E h=>?_) (λFb A outer s H vs Q E hr h=>?_)
 ·obtain ⟨s,dx,fl,Fg,p,x,ts,rfl,_⟩:=h;rfl
 ·obtain ⟨s0,dx,fl,Fg,p,x,ts,rfl,hs,hf,hp,hx,G,hP,q⟩:=h;have hG:∀ t∈ts,Gn p 4000 t.2/\AD t.1:=λt ht=>⟨G.num t ht,hP t ht⟩;have JX:Room 5 _:=hr.mono (by decide);refine ⟨_,ak (mr (pv 0) (pv 1) rfl) (ar (mr (pv 0) (ax FG JX (by rfl) mG kG bG .nil ae (@ai _ _ _ _ _ (pv 1) (@ai _ _ _ _ _ (ax FC JX (by rfl) mC kC bC .nil ae (@ai _ _ _ _ _ (pv 1) (@ai _ _ _ _ _ (pv 2) af rfl) rfl)) af rfl) rfl)) rfl)),?_⟩;refine ⟨_,rfl,_,rfl,s0,C,dx,_,rfl,hs,c.cl,c.nF,by decide,?_⟩
  have Lq:fl≠s0:=λz=>by
   rw [z,hs] at hf
   injection hf with hf
   injection hf with _ _ hf
   cases hf
  have LH:upd H s0 (.ins C dx (dw "its_field" (.ref fl) [])) fl=some (.ins CF Fg (eI p)):=by rw [ao Lq]; exact hf
  have kT:ay H (upd H s0 (.ins C dx (dw "its_field" (.ref fl) []))):=ay.upd λxs z=>by rw [hs] at z; cases z
  have fin:∀ (H2:Hp)(l:Addr)(ys:List V),aB (upd H s0 (.ins C dx (dw "its_field" (.ref fl) []))) H2->H2 l=some (.lst ys)->aH H2 ys ts->nM CF [.ref fl,.ref l] H2 (λy H1=>gH 0 [some (.ref s0),some (.ref fl),some x] H1 λx2 H2=>∃ a C dx fs,x2 = .ref a/\H2 a=some (.ins C dx fs)/\Cls K C/\dI K C "its_terms"/\fs.length < 1000 /\
   Q .non (upd H2 a (.ins C dx (dw "its_terms" y fs)))) λ_ _ _=>False:=by
   intro H2 l ys s2 hl ht;refine ⟨fl,Fg,l,p,ys,ts,rfl,s2 _ _ LH,hp,hl,ht,G,λH3 D zs s3 h0 hD hz=>?_⟩;have Tx:H3 s0=some (.ins C dx (dw "its_field" (.ref fl) [])):=s3 _ _ (s2 _ _ ah);refine ⟨_,rfl,s0,C,dx,_,rfl,Tx,c.cl,c.nT,(by show 1 < 1000; decide),?_⟩
   have nD:D≠s0:=λz=>by rw [z,Tx] at hD; cases hD
   refine q _ D zs (λb u e nb=>?_) (none_of (λc u e=>e) (by
    cases e:H D with
    | none=>rfl
    | some u=>rw [s2 D u (by rw [ao nD]; exact e)] at h0; cases h0)) ah (by rw [ao nD]; exact hD) (aH.keep hz (ay.upd λxs z=>by rw [Tx] at z; cases z))
   rw [ao nb];exact s3 _ _ (s2 _ _ (by rw [ao nb]; exact e))
  rcases hx with ⟨rfl,rfl⟩ | ⟨l,ys,rfl,hl,ht⟩
  ·refine ⟨_,rfl,_,rfl,_,rfl,fl,Fg,p,.non,rfl,LH,hp,.inl ⟨rfl,λl hl=>?_⟩⟩;exact fin _ l [] (av hl) ah .nil
  ·have nl:l≠s0:=λz=>by rw [z,hs] at hl; cases hl
   have Gs:upd H s0 (.ins C dx (dw "its_field" (.ref fl) [])) l=some (.lst ys):=by rw [ao nl]; exact hl
   have Je:=aH.keep ht kT;refine ⟨_,rfl,_,rfl,_,rfl,fl,Fg,p,.ref l,rfl,LH,hp,.inr ⟨l,ys,rfl,Gs,?_,xN Je hG,λH2 s2=>?_⟩⟩
   ·rw [ht.length]; have:=G.len; omega
   ·exact fin _ l ys s2 (s2 _ _ Gs) (aH.keep Je (ay.of s2))
end K06
namespace L2
open PySem PySem.Spec PyProof.Rows PySem.W
theorem jN:∀ {ns:List Int}{us:List Value},aK (ns.map V.int) us->IntsAre us ns
 | [],us,r=>by cases r; exact .nil
 | n :: ns,us,r=>by
   rw [List.map_cons] at r
   cases r with
   | cons h t =>
     obtain ⟨k,rfl⟩:=(show ∃ k,_=Value.int n k from h);exact .cons n k (jN t)
theorem wG:∀ {us:List Value}{ns:List Int},IntsAre us ns->aK (ns.map V.int) us
 | _,_,.nil=>.nil
 | _,_,.cons n t h=>.cons ⟨t,rfl⟩ (wG h)
end L2
namespace Mx
open PySem PyProof.Rows
end Mx
namespace L2
open PySem PySem.Spec PyProof.Rows PySem.W
end L2
namespace K06
open PySem L2 PySem.W Nm Srt
noncomputable abbrev tj:Stmt:=aU (aZ 26) 5
noncomputable abbrev rM:Stmt:=aU (aZ 26) 6
structure SumR (C CF:Addr)(H:Hp)(s:Addr)(p:Int)(ts:List Tm):Prop where
 ex:∃ dx fl Fg D zs,H s=some (.ins C dx (pG fl D))/\H fl=some (.ins CF Fg (eI p))/\H D=some (.lst zs)/\aH H zs ts
noncomputable def oW (C CF:Addr):Sp:=λvs H Q _=>∃ (s dx fl D:Addr),vs=[.ref s]/\H s=some (.ins C dx (pG fl D))/\Q (.ref fl) H
noncomputable def jT (C CF:Addr):Sp:=λvs H Q _=>∃ (s dx fl D:Addr)(zs:List V),vs=[.ref s]/\H s=some (.ins C dx (pG fl D))/\H D=some (.lst zs)/\∀ l,H l=none->Q (.ref l) (upd H l (.lst zs))
theorem we:FnScope ["self"] ["self"] (aq tj):=dX (by decide +kernel)
theorem ym:FnScope ["self"] ["self"] (aq rM):=dX (by decide +kernel)
variable {P:Program}{w:World}{K:PySem.W.Frag}{mg:Str->Option Value}{base:Heap}
theorem uH {f C CF:Addr}{fd:FuncData}(F:Fun K "field" "Sum.field" tj f fd)(c:SumK K mg C):FnOk P w K mg base (aV P w) 1 f fd ["self"] (oW C CF):=by
 refine F.okN we (λvs H Q E h=>?_) (λFb A outer s H vs Q E hr h=>?_)
 ·obtain ⟨s,dx,fl,D,rfl,_⟩:=h;rfl
 ·obtain ⟨s0,dx,fl,D,rfl,hs,q⟩:=h;exact ⟨_,ar (az (bK (pv 0) rfl)),_,rfl,s0,C,dx,_,_,rfl,hs,c.cl,c.nF,rfl,q⟩
theorem uo {f C CF:Addr}{fd:FuncData}(F:Fun K "terms" "Sum.terms" rM f fd)(c:SumK K mg C)(FH:mg "list"=none):FnOk P w K mg base (aV P w) 1 f fd ["self"] (jT C CF):=by
 refine F.okN ym (λvs H Q E h=>?_) (λFb A outer s H vs Q E hr h=>?_)
 ·obtain ⟨s,dx,fl,D,zs,rfl,_⟩:=h;rfl
 ·obtain ⟨s0,dx,fl,D,zs,rfl,hs,hD,q⟩:=h;refine ⟨_,ar (az (c9 mK (by rfl) FH (by rfl) (@ai _ _ _ _ _ (bK (pv 0) rfl) af rfl))),?_⟩;exact ⟨_,rfl,s0,C,dx,_,_,rfl,hs,c.cl,c.nT,rfl,D,zs,rfl,.inl (bu.of hD),λl hl=>q l hl⟩
noncomputable abbrev CL:Stmt:=aU (aZ 26) 1
structure SumQ (K:Frag)(mg:Str->Option Value)(C:Addr):Prop where
 c:SumK K mg C
 isC:((clsIn K C).isSome&&typeIn K (.ref C) == some (.type "type"))=true
 ca:findIn K (.ref C) "__class__"=some (some (.builtin "object.__class__"))
 sp:specialIn K (.builtin "object.__class__") "__get__"=some (some (.builtin "getset_descriptor.__get__"))
 tk:takesIn K (.builtin "object.__class__")=some true
 ob:mroIn K C (.type "object")=some true
theorem SumQ.ty {K:Frag}{mg:Str->Option Value}{C:Addr}(c:SumQ K mg C){H:Hp}{p dx:Addr}{fs:List (Str × V)}(e:H p=some (.ins C dx fs)):TyX K H (.ref p) (.ref C):=.of (.ins e c.c.cl c.ca c.sp c.tk c.ob)
theorem SumQ.is {K:Frag}{mg:Str->Option Value}{C:Addr}(c:SumQ K mg C):kitOne K (.ref C) (.ref C)=some true:=by
 unfold kitOne;rw [if_pos (by simp)]
theorem ni {K:Frag}{C:Addr}:notFirst K C (.ref C)=true:=by unfold notFirst; simp
noncomputable def yA (t:Tm):D:=.tup [.tup (t.1.map D.int),.tup [.int t.2.1,.int t.2.2]]
theorem AF {K:Frag}{H:Hp}:∀ ns:List Int,bq K H (ns.map D.int) (ns.map V.int)
 | []=>by unfold bq; rfl
 | n :: ns=>by
   show bq K H (.int n :: ns.map D.int) (.int n :: ns.map V.int);unfold bq;exact ⟨_,_,rfl,(by unfold aL; rfl),AF ns⟩
theorem CO:∀ ns:List Int,eF (ns.map D.int)=0
 | []=>by simp [eF]
 | n :: ns=>by rw [List.map_cons]; unfold eF; rw [CO ns]; simp [jd]
theorem zZ {K:Frag}{H:Hp}{y:V}{t:Tm}(h:Ct H y t):aL K H (yA t) y:=by
 obtain ⟨a,pr,nu,rfl,ha,FA,Fx⟩:=h;unfold yA aL;refine ⟨a,_,rfl,a9.of ha,?_⟩;unfold bq;refine ⟨_,_,rfl,(by unfold aL; exact ⟨pr,_,rfl,a9.of FA,AF _⟩),?_⟩;unfold bq;refine ⟨_,_,rfl,Bt Fx,?_⟩;unfold bq;rfl
theorem pH {K:Frag}{H:Hp}:∀ {ys:List V}{ts:List Tm},aH H ys ts->bq K H (ts.map yA) ys
 | _,_,.nil=>by unfold bq; rfl
 | _,_,.cons (b:=t) h r=>by
   show bq K H (yA t :: _) _;unfold bq;exact ⟨_,_,rfl,zZ h,pH r⟩
theorem tJ:∀ ts:List Tm,eF (ts.map yA)<=2
 | []=>by unfold eF; decide
 | t :: ts=>by
   show eF (yA t :: ts.map yA)<=2;unfold eF;have:=tJ ts
   have h:jd (yA t)=2:=by
    unfold yA jd eF eF eF;rw [DB,show jd (.tup (t.1.map D.int))=1 from by unfold jd; rw [CO]];rfl
   omega
noncomputable abbrev lE (ts:List Tm):D:=.lst (ts.map yA)
theorem eK {K:Frag}{H:Hp}{a:Addr}{ys:List V}{ts:List Tm}(e:H a=some (.lst ys))(h:aH H ys ts):aL K H (lE ts) (.ref a):=by
 unfold aL;exact ⟨a,ys,rfl,bu.of e,pH h⟩
theorem nR (ts:List Tm):jd (lE ts)<=32:=by
 unfold jd;have:=tJ ts;omega
theorem SumR.same {C CF:Addr}{H H':Hp}{s:Addr}{p:Int}{ts:List Tm}(h:SumR C CF H s p ts)(k:aB H H'):SumR C CF H' s p ts:=by
 obtain ⟨dx,fl,Fg,D,zs,h1,h2,h3,h4⟩:=h.ex;exact ⟨dx,fl,Fg,D,zs,k _ _ h1,k _ _ h2,k _ _ h3,aH.keep h4 (ay.of k)⟩
noncomputable def wA (K:Frag)(C CF:Addr):Sp:=λvs H Q _=>∃ (s:Addr)(p:Int)(ts:List Tm)(y:V),vs=[.ref s,y]/\SumR C CF H s p ts /\
 ((∃ s' p' W4,y = .ref s'/\SumR C CF H s' p' W4/\Q (.bl (decide (p=p')&&dU (lE ts) (lE W4))) H)\/∃ t,TyX K H y t/\kitOne K t (.ref C)=some false/\Q (.bl false) H)
theorem Dm:FnScope ["self","other"] ["self","other"] (aq CL):=dX (by decide +kernel)
theorem Ba {f fe C CF:Addr}{fd LI:FuncData}(F:Fun K "__eq__" "Sum.__eq__" CL f fd)(c:SumQ K mg C)(cF:FieldK K mg CF)(E8:mg "isinstance"=none)
 (FE:FnOk P w K mg base (aV P w) 1 fe LI ["self","other"] (BY CF))(bE:L2.aA K LI ["self","other"] [])(nE:findIn K (.ref CF) "__eq__"=some (some (.ref fe)))(iE:isFn K (.ref fe)=true):
 FnOk P w K mg base (aV P w) 2 f fd ["self","other"] (wA K C CF):=by
 refine F.okN Dm (λvs H Q E h=>?_) (λFb A outer s H vs Q E hr h=>?_)
 ·obtain ⟨s,p,ts,y,rfl,_⟩:=h;rfl
 ·obtain ⟨s0,p,ts,y,rfl,S,h⟩:=h;have FF:Room 1 _:=hr.mono (by decide);refine ⟨_,(ar (az (cE (aF aR (by rfl) E8 (by rfl) (@ai _ _ _ _ _ (pv 1) (@ai _ _ _ _ _ (cL (by rfl) c.c.mgC (show aC (.ref C) (.ref C) from rfl)) af rfl) rfl)) (cE (@bZ _ _ _ _ _ _ _ _ (oU nE iE FE FF bE ae) (bK (pv 0) rfl) (bK (pv 1) rfl) (aI _)) (dC (@bZ _ _ _ _ _ _ _ _ (qk hr) (bK (pv 0) rfl) (bK (pv 1) rfl) (aI _))))))),?_⟩
  rcases h with ⟨s1,p1,us,rfl,S1,q⟩ | ⟨t,ty,kt,q⟩
  ·obtain ⟨dx,fl,Fg,Dd,zs,h1,h2,h3,h4⟩:=S.ex;obtain ⟨Jz,LJ,Hx,MI,NM,g1,g2,g3,g4⟩:=S1.ex;refine ⟨_,rfl,.ref s1,.ref C,_,_,_,rfl,rfl,c.ty g1,c.is,_,rfl,cb ?_⟩;refine ⟨_,rfl,s0,C,dx,_,_,rfl,h1,c.c.cl,c.c.nF,rfl,_,rfl,s1,C,Jz,_,_,rfl,g1,c.c.cl,c.c.nF,rfl,?_⟩;refine ⟨fl,Fg,_,.ref CF,rfl,h2,cF.ty g2,ni,fl,Fg,p,.ref LJ,rfl,h2,.inl ⟨LJ,Hx,p1,rfl,g2,_,rfl,_,rfl,?_⟩⟩
   have eb:(decide (p=p1) != false)=decide (p=p1):=by simp
   rw [eb]
   cases hb:decide (p=p1) with
   | false =>
     rw [hb,Bool.false_and] at q;exact bF q
   | true =>
     rw [hb,Bool.true_and] at q;refine cb ⟨_,rfl,s0,C,dx,_,_,rfl,h1,c.c.cl,c.c.nT,rfl,_,rfl,s1,C,Jz,_,_,rfl,g1,c.c.cl,c.c.nT,rfl,?_⟩;refine ⟨_,_,eK h3 h4,eK g3 g4,nR _,?_⟩;simpa using q
  ·exact ⟨_,rfl,y,.ref C,_,_,_,rfl,rfl,ty,kt,_,rfl,bF q⟩
end K06
namespace Nm
open Lean.Grind in
structure Val (p:Int)(R:Type) [CommRing R](v:Int × Int->R):Prop where
 zero:v (0,1)=0
 one:v (1,1)=1
 set:∀ {t b:Int}{a c:Int × Int},Num p a.1 a.2->Num p c.1 c.2->(t=a.1 * c.2 + c.1 * a.2->b=a.2 * c.2->v (c6 p t b,dq p t b)=v a + v c)/\(t=a.1 * c.1->b=a.2 * c.2->v (c6 p t b,dq p t b)=v a * v c)
 inj:∀ {a c:Int × Int},Num p a.1 a.2->Num p c.1 c.2->v a=v c->a=c
theorem iL {t b:Int}(h:b≠0):c6 0 t b * b=t * dq 0 t b:=by
 have e1:=ma (t:=t) h;have e2:=iV (t:=t) h;show cM t b * b=t * b7 t b;generalize cM t b=x at *;generalize b7 t b=y at *;generalize dv t b=d at *;subst e1;subst e2;grind
theorem Af:Val 0 Rat (λa=>Rat.divInt a.1 a.2) where
 zero:=by decide +kernel
 one:=by decide +kernel
 set:=by
  intro t b a c na nc
  have ha:a.2≠0:=by have:=na.pos; omega
  have hc:c.2≠0:=by have:=nc.pos; omega
  have hb:a.2 * c.2≠0:=Int.mul_ne_zero ha hc;refine ⟨λet eb=>?_,λet eb=>?_⟩
  ·subst eb;subst et
   have hs:dq 0 (a.1 * c.2 + c.1 * a.2) (a.2 * c.2)≠0:=by have:=(Num.set (p:=0) (t:=a.1 * c.2 + c.1 * a.2) (Int.le_refl 0) hb).pos; omega
   show Rat.divInt _ _=Rat.divInt _ _ + Rat.divInt _ _;rw [Rat.divInt_add_divInt _ _ ha hc,Rat.divInt_eq_divInt_iff hs hb];exact iL hb
  ·subst eb;subst et
   have hs:dq 0 (a.1 * c.1) (a.2 * c.2)≠0:=by have:=(Num.set (p:=0) (t:=a.1 * c.1) (Int.le_refl 0) hb).pos; omega
   show Rat.divInt _ _=Rat.divInt _ _ * Rat.divInt _ _;rw [Rat.divInt_mul_divInt,Rat.divInt_eq_divInt_iff hs hb];exact iL hb
 inj:=by
  intro a c na nc e
  have ha:a.2≠0:=by have:=na.pos; omega
  have hc:c.2≠0:=by have:=nc.pos; omega
  have e:=(Rat.divInt_eq_divInt_iff ha hc).mp e;obtain ⟨h1,h2⟩:=Bb (p:=0) ha nc (Int.le_refl 0) (λ_=>e) (λz=>absurd rfl z);obtain ⟨g1,g2⟩:=na.self (Int.le_refl 0);exact Prod.ext (g1.symm.trans h1) (g2.symm.trans h2)
theorem zx {n:Nat} [NeZero n](h2:2<=n):Val (n:Int) (Fin n) (λa=>Fin.ofNat n a.1.toNat) where
 zero:=rfl
 one:=rfl
 set:=by
  intro t b a c na nc
  have hz:(n:Int)≠0:=by omega
  obtain ⟨a2,a0,a1⟩:=na.pr hz;obtain ⟨c2,c0,c1⟩:=nc.pr hz
  have key:∀ x y z:Int,0<=x->0<=y->0<=z->z=x + y->(z % (n:Int)).toNat % n=(x.toNat % n + y.toNat % n) % n:=by
   intro x y z hx hy hz e;obtain ⟨x,rfl⟩:∃ m:Nat,x=(m:Int):=⟨x.toNat,by omega⟩;obtain ⟨y,rfl⟩:∃ m:Nat,y=(m:Int):=⟨y.toNat,by omega⟩;subst e;rw [show ((x:Int) + (y:Int)) % (n:Int)=(((x + y) % n:Nat):Int) from by push_cast; rfl];rw [Int.toNat_natCast,Int.toNat_natCast,Int.toNat_natCast,Nat.mod_mod,Nat.add_mod]
  have TB:∀ x y z:Int,0<=x->0<=y->z=x * y->(z % (n:Int)).toNat % n=(x.toNat % n) * (y.toNat % n) % n:=by
   intro x y z hx hy e;obtain ⟨x,rfl⟩:∃ m:Nat,x=(m:Int):=⟨x.toNat,by omega⟩;obtain ⟨y,rfl⟩:∃ m:Nat,y=(m:Int):=⟨y.toNat,by omega⟩;subst e;rw [show ((x:Int) * (y:Int)) % (n:Int)=(((x * y) % n:Nat):Int) from by push_cast; rfl];rw [Int.toNat_natCast,Int.toNat_natCast,Int.toNat_natCast,Nat.mod_mod,Nat.mul_mod]
  refine ⟨λet eb=>?_,λet eb=>?_⟩
  ·apply Fin.ext;show (c6 (n:Int) t b).toNat % n=(a.1.toNat % n + c.1.toNat % n) % n;unfold c6;rw [if_neg hz];exact key a.1 c.1 t a0 c0 (by rw [et,a2,c2]; omega) (by rw [et,a2,c2]; omega)
  ·apply Fin.ext;show (c6 (n:Int) t b).toNat % n=(a.1.toNat % n) * (c.1.toNat % n) % n;unfold c6;rw [if_neg hz];exact TB a.1 c.1 t a0 c0 et
 inj:=by
  intro a c na nc e
  have hz:(n:Int)≠0:=by omega
  obtain ⟨a2,a0,a1⟩:=na.pr hz;obtain ⟨c2,c0,c1⟩:=nc.pr hz;have e:a.1.toNat % n=c.1.toNat % n:=congrArg Fin.val e;rw [Nat.mod_eq_of_lt (by omega),Nat.mod_eq_of_lt (by omega)] at e;exact Prod.ext (by omega) (by omega)
theorem Co {p:Int}(hp:p=0\/2<=p):∃ (R:Type)(i:Lean.Grind.CommRing R)(v:Int × Int->R),@Val p R i v:=by
 rcases hp with rfl | hp
 ·exact ⟨Rat,_,_,Af⟩
 ·obtain ⟨n,rfl⟩:∃ n:Nat,p=(n:Int):=⟨p.toNat,by omega⟩;have:NeZero n:=⟨by omega⟩;exact ⟨Fin n,_,_,zx (by omega)⟩
end Nm
namespace K06
open PySem L2 PySem.W Nm Srt
section
variable {p:Int}{R:Type} [Lean.Grind.CommRing R]{v:Int × Int->R}
noncomputable def S (v:Int × Int->R):List Tm->(List Int->R)->R
 | [],_=>0
 | t :: ts,F=>v t.2 * F t.1 + S v ts F
theorem dn (a b:List Tm)(F:List Int->R):S v (a++b) F=S v a F + S v b F:=by
 induction a with
 | nil=>show S v b F=0 + S v b F; grind
 | cons t a ih =>
   show v t.2 * F t.1 + S v (a++b) F=v t.2 * F t.1 + S v a F + S v b F;rw [ih];grind
theorem Aw (a:List Tm)(F G:List Int->R):S v a (λi=>F i + G i)=S v a F + S v a G:=by
 induction a with
 | nil=>show (0:R)=0 + 0; grind
 | cons t a ih =>
   show v t.2 * (F t.1 + G t.1) + S v a (λi=>F i + G i)=(v t.2 * F t.1 + S v a F) + (v t.2 * G t.1 + S v a G);rw [ih];grind
theorem Cw (a:List Tm)(c:R)(F:List Int->R):S v a (λi=>c * F i)=c * S v a F:=by
 induction a with
 | nil=>show (0:R)=c * 0; grind
 | cons t a ih =>
   show v t.2 * (c * F t.1) + S v a (λi=>c * F i)=c * (v t.2 * F t.1 + S v a F);rw [ih];grind
theorem Bz (a:List Tm):S v a (λ_=>0)=0:=by
 induction a with
 | nil=>rfl
 | cons t a ih =>
   show v t.2 * 0 + S v a (λ_=>0)=0;rw [ih];grind
theorem Bh (a b:List Tm)(G:List Int->List Int->R):S v a (λi=>S v b λj=>G i j)=S v b (λj=>S v a λi=>G i j):=by
 induction a with
 | nil=>exact (Bz b).symm
 | cons t a ih =>
   show v t.2 * S v b (λj=>G t.1 j) + S v a (λi=>S v b λj=>G i j)=S v b (λj=>v t.2 * G t.1 j + S v a λi=>G i j);rw [ih,Aw,Cw]
theorem Br {a b:List Tm}(h:a.Perm b)(F:List Int->R):S v a F=S v b F:=by
 induction h with
 | nil=>rfl
 | cons x _ ih=>show _ + _=_ + _; rw [ih]
 | swap x y l =>
   show v y.2 * F y.1 + (v x.2 * F x.1 + S v l F)=v x.2 * F x.1 + (v y.2 * F y.1 + S v l F);grind
 | trans _ _ i1 i2=>exact i1.trans i2
noncomputable def br (p:Int)(d:List Tm):Prop:=∀ e∈d,Num p e.2.1 e.2.2
theorem xx {a b:Int × Int}(hp:0<=p)(ha:Num p a.1 a.2)(hb:Num p b.1 b.2):Num p (dm p a b).1 (dm p a b).2 :=
 Num.set hp (Int.mul_ne_zero (by have:=ha.pos; omega) (by have:=hb.pos; omega))
theorem vM {d:List Tm}{t:Tm}(hp:0<=p)(hd:br p d)(ht:Num p t.2.1 t.2.2):br p (cX p d t):=by
 intro e he;unfold cX at he
 split at he
 ·obtain ⟨e0,h0,rfl⟩:=List.mem_map.mp he
  by_cases q:e0.1=t.1
  ·rw [if_pos q]; exact xx hp (hd e0 h0) ht
  ·rw [if_neg q]; exact hd e0 h0
 ·rcases List.mem_append.mp he with he | he
  ·exact hd e he
  ·have:e=t:=by simpa using he
   rw [this]; exact ht
theorem Dy (V:Val p R v){x:Int × Int}(hx:Num p x.1 x.2)(k:List Int)(F:List Int->R):∀ {d:List Tm},br p d->(d.map (·.1)).Nodup →
 S v (d.map λe=>if e.1=k then (e.1,dm p e.2 x) else e) F=S v d F + (if d.any (λe=>decide (e.1=k))=true then v x * F k else 0)
 | [],_,_=>by show (0:R)=0 + 0; grind
 | e :: d,hn,hd=>by
   rw [List.map_cons] at hd;obtain ⟨h1,h2⟩:=List.nodup_cons.mp hd;have Mw:br p d:=λe he=>hn e (List.mem_cons_of_mem _ he);have ih:=Dy V hx k F Mw h2;rw [List.map_cons,List.any_cons]
   by_cases q:e.1=k
   ·have no:d.any (λe=>decide (e.1=k))=false:=by
     rw [List.any_eq_false];intro e' Ik z
     have:e'.1=k:=by simpa using z
     exact h1 (List.mem_map.mpr ⟨e',Ik,by rw [this,q]⟩)
    rw [no,if_neg (by simp)] at ih;rw [if_pos q,no,decide_eq_true q];have ev:v (dm p e.2 x)=v e.2 + v x:=(V.set (hn e List.mem_cons_self) hx).1 rfl rfl;show v (dm p e.2 x) * F e.1 + S v (d.map _) F=v e.2 * F e.1 + S v d F + v x * F k;rw [ih,ev,q];grind
   ·rw [if_neg q,decide_eq_false q,Bool.false_or];show v e.2 * F e.1 + S v (d.map _) F=v e.2 * F e.1 + S v d F + _;rw [ih];grind
theorem Bn (V:Val p R v){d:List Tm}{t:Tm}(hn:br p d)(ht:Num p t.2.1 t.2.2)(hd:(d.map (·.1)).Nodup)(F:List Int->R):S v (cX p d t) F=S v d F + v t.2 * F t.1:=by
 unfold cX
 split
 ·rename_i q
  rw [Dy V ht t.1 F hn hd,if_pos q]
 ·rw [dn];show S v d F + (v t.2 * F t.1 + 0)=_;grind
theorem sS (V:Val p R v)(hp:0<=p)(F:List Int->R):∀ (ts d:List Tm),br p ts->br p d->(d.map (·.1)).Nodup →
 S v (ts.foldl (cX p) d) F=S v d F + S v ts F/\br p (ts.foldl (cX p) d)/\((ts.foldl (cX p) d).map (·.1)).Nodup
 | [],d,_,hn,hd=>⟨by show S v d F=S v d F + 0; grind,hn,hd⟩
 | t :: ts,d,ht,hn,hd=>by
   have h1:=ht t List.mem_cons_self;obtain ⟨i1,i2⟩:=sS V hp F ts (cX p d t) (λe he=>ht e (List.mem_cons_of_mem _ he)) (vM hp hn h1) (lZ hd);refine ⟨?_,i2⟩;show S v (ts.foldl (cX p) (cX p d t)) F=S v d F + (v t.2 * F t.1 + S v ts F);rw [i1,Bn V hn h1 hd];grind
theorem eU (V:Val p R v)(hp:0<=p){ts:List Tm}(h:br p ts)(F:List Int->R):S v (aN p ts) F=S v ts F/\br p (aN p ts)/\((aN p ts).map (·.1)).Nodup:=by
 obtain ⟨h1,h2⟩:=sS V hp F ts [] h (λe he=>nomatch he) List.nodup_nil;refine ⟨?_,h2⟩;show S v (ts.foldl (cX p) []) F=_;rw [h1];show (0:R) + S v ts F=S v ts F;grind
theorem xo {t b:Int}(h:Num p t b)(z:t=0):b=1:=by
 have:=h.red;have:=h.pos;rw [z,Int.gcd_zero_left] at *;omega
theorem pO (V:Val p R v)(F:List Int->R):∀ {d:List Tm},br p d->S v (d.filter λe=>e.2.1 != 0) F=S v d F
 | [],_=>rfl
 | e :: d,h=>by
   have ih:=pO V F (d:=d) λe he=>h e (List.mem_cons_of_mem _ he)
   by_cases q:e.2.1=0
   ·rw [List.filter_cons_of_neg (by simp [q]),ih];have e2:e.2=(0,1):=Prod.ext q (xo (h e List.mem_cons_self) q);show _=v e.2 * F e.1 + S v d F;rw [e2,V.zero];grind
   ·rw [List.filter_cons_of_pos (by simp [q])];show v e.2 * F e.1 + S v _ F=v e.2 * F e.1 + S v d F;rw [ih]
theorem eO (d:List Tm):(dW d).Perm (d.filter λe=>e.2.1 != 0):=by
 unfold dW;have h:=(cx ((d.filter λe=>e.2.1 != 0).map λe=>(en e,e))).map (·.2);rw [List.map_map] at h;have e:((λx:Ky × Tm=>x.2) ∘ λe=>(en e,e))=id:=rfl;rw [e,List.map_id] at h;exact h
theorem Bv (V:Val p R v){d:List Tm}(h:br p d)(F:List Int->R):S v (dW d) F=S v d F:=by
 rw [Br (eO d),pO V F h]
theorem wM {d:List Tm}(h:br p d):br p (dW d):=λe he=>h e (List.mem_filter.mp ((eO d).mem_iff.mp he)).1
theorem kR (V:Val p R v)(hp:0<=p){ts:List Tm}(h:br p ts)(F:List Int->R):S v (dW (aN p ts)) F=S v ts F:=by
 obtain ⟨h1,h2,_⟩:=eU V hp h F;rw [Bv V h2,h1]
theorem B7 (V:Val p R v)(hp:0<=p){ts:List Tm}(h:br p ts):br p (dW (aN p ts)):=wM (eU V hp h λ_=>0).2.1
noncomputable def dl (k:List Int):List Int->R:=λi=>if i=k then 1 else 0
theorem Bi {k:List Int}:∀ {d:List Tm},k ∉ d.map (·.1)->S v d (dl k)=0
 | [],_=>rfl
 | e :: d,h=>by
   rw [List.map_cons,List.mem_cons,not_or] at h;show v e.2 * (if e.1=k then 1 else 0) + S v d (dl k)=0;rw [if_neg (λz=>h.1 z.symm),Bi h.2];grind
theorem BG:∀ {d:List Tm}{e:Tm},(d.map (·.1)).Nodup->e∈d->S v d (dl e.1)=v e.2
 | x :: d,e,hd,he=>by
   rw [List.map_cons] at hd;obtain ⟨h1,h2⟩:=List.nodup_cons.mp hd;show v x.2 * (if x.1=e.1 then 1 else 0) + S v d (dl e.1)=v e.2
   rcases List.mem_cons.mp he with rfl | he
   ·rw [if_pos rfl,Bi h1];grind
   ·rw [if_neg (λz=>h1 (List.mem_map.mpr ⟨e,he,z.symm⟩)),BG h2 he];grind
theorem pS (V:Val p R v){d c:List Tm}(hn:br p d)(hd:(d.map (·.1)).Nodup)(cn:br p c)(cd:(c.map (·.1)).Nodup)(h:∀ F:List Int->R,S v d F=S v c F){e:Tm}(he:e∈d.filter λe=>e.2.1 != 0):e∈c.filter λe=>e.2.1 != 0:=by
 obtain ⟨h1,h2⟩:=List.mem_filter.mp he;refine List.mem_filter.mpr ⟨?_,h2⟩;have e1:=BG (v:=v) hd h1;rw [h] at e1
 by_cases k:e.1∈c.map (·.1)
 ·obtain ⟨e',Ik,ek⟩:=List.mem_map.mp k;have e2:=BG (v:=v) cd Ik;rw [ek,e1] at e2;have e3:=V.inj (hn e h1) (cn e' Ik) e2;have:e=e':=Prod.ext ek.symm e3;rw [this];exact Ik
 ·rw [Bi k] at e1;have e3:=V.inj (a:=(0,1)) (c:=e.2) ⟨by decide,by decide,λz=>⟨rfl,by decide,?_⟩⟩ (hn e h1) (V.zero.trans e1)
  ·rw [<-e3] at h2;exact absurd h2 (by decide)
  ·have:=((hn e h1).pr z).2;show (0:Int) < p;omega
theorem nY {d:List Tm}(h:(d.map (·.1)).Nodup):d.Nodup:=by
 induction d with
 | nil=>exact List.nodup_nil
 | cons e d ih =>
   rw [List.map_cons] at h;obtain ⟨h1,h2⟩:=List.nodup_cons.mp h;exact List.nodup_cons.mpr ⟨λz=>h1 (List.mem_map.mpr ⟨e,z,rfl⟩),ih h2⟩
theorem zV (V:Val p R v){d c:List Tm}(hn:br p d)(hd:(d.map (·.1)).Nodup)(cn:br p c)(cd:(c.map (·.1)).Nodup)(h:∀ F:List Int->R,S v d F=S v c F):dW d=dW c:=by
 have nd:=(nY hd).filter (λe:Tm=>e.2.1 != 0);have nc:=(nY cd).filter (λe:Tm=>e.2.1 != 0);have pm:(d.filter λe=>e.2.1 != 0).Perm (c.filter λe=>e.2.1 != 0):=(List.perm_ext_iff_of_nodup nd nc).mpr λe=>⟨pS V hn hd cn cd h,pS V cn cd hn hd λF=>(h F).symm⟩;unfold dW;congr 1;refine ph ?_ (pm.map _);rw [List.map_map];have cf:((c.filter λe=>e.2.1 != 0).map (·.1)).Nodup:=cd.sublist (List.filter_sublist.map _);generalize (c.filter λe=>e.2.1 != 0)=l at cf
 induction l with
 | nil=>exact List.nodup_nil
 | cons e l ih =>
   rw [List.map_cons] at cf |-;obtain ⟨h1,h2⟩:=List.nodup_cons.mp cf;refine List.nodup_cons.mpr ⟨λz=>?_,ih h2⟩;obtain ⟨x,hx,ex⟩:=List.mem_map.mp z;have ex:en x=en e:=ex;exact h1 (List.mem_map.mpr ⟨x,hx,congrArg Prod.snd ex⟩)
theorem kc (V:Val p R v)(hp:0<=p){ts us:List Tm}(ht:br p ts)(hu:br p us)(h:∀ F:List Int->R,S v ts F=S v us F):dW (aN p ts)=dW (aN p us):=by
 obtain ⟨_,t1,t2⟩:=eU V hp ht λ_=>0;obtain ⟨_,u1,u2⟩:=eU V hp hu λ_=>0
 exact zV V t1 t2 u1 u2 λF=>by rw [(eU V hp ht F).1,(eU V hp hu F).1,h]
end
end K06
namespace St
open PySem
noncomputable abbrev T:=SetTable
noncomputable def Up (xs:Array Nat):Prop:=∀ i j,i < j->j < xs.size->xs.getD i 0 < xs.getD j 0
noncomputable def DN (xs:Array Nat)(j r:Nat):Prop:=r<=xs.size/\(∀ k,k < r->xs.getD k 0 < j)/\∀ k,r<=k->k < xs.size->j<=xs.getD k 0
theorem vP {xs:Array Nat}{k d e:Nat}(h:k < xs.size):xs.getD k d=xs.getD k e:=by
 simp [Array.getD,h]
theorem AY {xs:Array Nat}{j:Nat}(u:Up xs):∀ (f lo hi:Nat),lo<=hi->hi<=xs.size->hi - lo<=f->(∀ k,k < lo->xs.getD k 0 < j)->(∀ k,hi<=k->k < xs.size->j<=xs.getD k 0) →
 DN xs j (SetTable.below.go xs j f lo hi):=by
 intro f
 induction f with
 | zero =>
   intro lo hi h1 h2 h3 h4 h5
   have e:lo=hi:=by omega
   subst e;exact ⟨h2,h4,h5⟩
 | succ f ih =>
   intro lo hi h1 h2 h3 h4 h5;unfold SetTable.below.go
   by_cases h:lo < hi
   ·rw [if_pos h]
    have hm:(lo + hi) / 2 < xs.size:=by omega
    have e:xs.getD ((lo + hi) / 2) j=xs.getD ((lo + hi) / 2) 0:=vP hm;dsimp only;rw [e]
    by_cases g:xs.getD ((lo + hi) / 2) 0 < j
    ·rw [if_pos g];refine ih _ _ (by omega) h2 (by omega) (λk hk=>?_) h5
     rcases Nat.lt_or_ge k ((lo + hi) / 2) with q | q
     ·exact Nat.lt_trans (u _ _ q hm) g
     ·have:k=(lo + hi) / 2:=by omega
      rw [this]; exact g
    ·rw [if_neg g];refine ih _ _ (by omega) (by omega) (by omega) h4 (λk hk ZS=>?_)
     rcases Nat.lt_or_ge ((lo + hi) / 2) k with q | q
     ·exact Nat.le_trans (Nat.not_lt.mp g) (Nat.le_of_lt (u _ _ q ZS))
     ·have:k=(lo + hi) / 2:=by omega
      rw [this]; exact Nat.not_lt.mp g
   ·rw [if_neg h]
    have e:lo=hi:=by omega
    subst e;exact ⟨h2,h4,h5⟩
theorem eJ {xs:Array Nat}(u:Up xs)(j:Nat):DN xs j (SetTable.below xs j):=
 AY u _ _ _ (Nat.zero_le _) (Nat.le_refl _) (by omega) (λk hk=>absurd hk (Nat.not_lt_zero _)) (λk h1 h2=>absurd h1 (by omega))
theorem qG {xs:Array Nat}{j r q:Nat}(a:DN xs j r)(b:DN xs j q):r=q:=by
 rcases Nat.lt_trichotomy r q with h | h | h
 ·have h1:=b.2.1 r h;have h2:=a.2.2 r (Nat.le_refl _) (Nat.lt_of_lt_of_le h b.1);omega
 ·exact h
 ·have h1:=a.2.1 q h;have h2:=b.2.2 q (Nat.le_refl _) (Nat.lt_of_lt_of_le h a.1);omega
theorem qJ {xs:Array Nat}(u:Up xs):SetTable.below xs 0=0 :=
 qG (eJ u 0) ⟨Nat.zero_le _,λk hk=>absurd hk (Nat.not_lt_zero _),λ_ _ _=>Nat.zero_le _⟩
theorem rg {xs:Array Nat}(u:Up xs){i:Nat}(h:i < xs.size):SetTable.below xs (xs.getD i 0 + 1)=i + 1:=by
 refine qG (eJ u _) ⟨h,λk hk=>?_,λk h1 h2=>?_⟩
 ·rcases Nat.lt_or_ge k i with q | q
  ·exact Nat.lt_succ_of_lt (u _ _ q h)
  ·have:k=i:=by omega
   rw [this]; exact Nat.lt_succ_self _
 ·exact u _ _ (by omega) h2
theorem qV {xs:Array Nat}{i:Nat}(h:i < xs.size):xs[i]?=some (xs.getD i 0):=by
 simp [Array.getD,h]
noncomputable def vC (xs:Array Nat)(j:Nat):Prop:=∃ k,k < xs.size/\xs.getD k 0=j
theorem mf {t:T}(u:Up t.place){j:Nat}(h:vC t.place j):∃ i,t.slot j = .live i:=by
 obtain ⟨k,hk,rfl⟩:=h
 have hb:SetTable.below t.place (t.place.getD k 0)=k:=by
  refine qG (eJ u _) ⟨Nat.le_of_lt hk,λq hq=>u _ _ hq hk,λq h1 h2=>?_⟩
  rcases Nat.lt_or_ge k q with g | g
  ·exact Nat.le_of_lt (u _ _ g h2)
  ·have:q=k:=by omega
   rw [this]; exact Nat.le_refl _
 refine ⟨k,?_⟩;unfold SetTable.slot;dsimp only;rw [hb,qV hk];simp
theorem iq {t:T}(u:Up t.place)(d:t.dummies = #[]){j:Nat}(h:¬ vC t.place j):t.slot j = .empty:=by
 unfold SetTable.slot;dsimp only
 have e:(t.place[SetTable.below t.place j]? == some j)=false:=by
  rcases Nat.lt_or_ge (SetTable.below t.place j) t.place.size with g | g
  ·rw [qV g];have:t.place.getD (SetTable.below t.place j) 0≠j:=λq=>h ⟨_,g,q⟩;simpa using this
  ·rw [Array.getElem?_eq_none g]; rfl
 have e2:SetTable.has t.dummies j=false:=by rw [d]; simp [SetTable.has]
 rw [e,e2];rfl
theorem eC {α:Type}(xs:Array α)(p:Nat)(x:α)(h:p<=xs.size):(SetTable.insertAt xs p x).size=xs.size + 1:=by
 rw [<-Array.length_toList,SetTable.toList_insertAt];simp;omega
theorem gq {xs:Array Nat}{p x k:Nat}(h:p<=xs.size):(SetTable.insertAt xs p x).getD k 0=if k < p then xs.getD k 0 else if k=p then x else xs.getD (k - 1) 0:=by
 have e:∀ (ys:Array Nat)(k:Nat),ys.getD k 0=(ys.toList[k]?).getD 0:=by
  intro ys k;rw [Array.getElem?_toList,Array.getD_eq_getD_getElem?]
 rw [e,e,e,SetTable.toList_insertAt]
 have hl:(xs.toList.take p).length=p:=by simp [h]
 by_cases g:k < p
 ·rw [if_pos g,List.getElem?_append_left (by omega),List.getElem?_take_of_lt g]
 ·rw [if_neg g,List.getElem?_append_right (by omega),hl]
  by_cases g2:k=p
  ·subst g2; simp
  ·rw [if_neg g2];obtain ⟨q,hq⟩:∃ q,k=p + (q + 1):=⟨k - p - 1,by omega⟩;subst hq;rw [show p + (q + 1) - p=q + 1 from by omega,List.getElem?_cons_succ,List.getElem?_drop,show p + (q + 1) - 1=p + q from by omega]
theorem uI {xs:Array Nat}(u:Up xs){j:Nat}(h:¬ vC xs j):Up (SetTable.insertAt xs (SetTable.below xs j) j):=by
 obtain ⟨c1,c2,c3⟩:=eJ u j;generalize SetTable.below xs j=p at c1 c2 c3;intro a b GX hb;rw [eC _ _ _ c1] at hb;rw [gq c1,gq c1];have gt:∀ k,p<=k->k < xs.size->j < xs.getD k 0:=λk h1 h2=>Nat.lt_of_le_of_ne (c3 k h1 h2) λe=>h ⟨k,h2,e.symm⟩
 by_cases ha:a < p
 ·rw [if_pos ha]
  by_cases Ry:b < p
  ·rw [if_pos Ry]; exact u _ _ GX (by omega)
  ·rw [if_neg Ry]
   by_cases W5:b=p
   ·rw [if_pos W5]; exact c2 _ ha
   ·rw [if_neg W5]; exact Nat.lt_trans (c2 _ ha) (gt _ (by omega) (by omega))
 ·rw [if_neg ha]
  by_cases W6:a=p
  ·rw [if_pos W6,if_neg (by omega),if_neg (by omega)]; exact gt _ (by omega) (by omega)
  ·rw [if_neg W6,if_neg (by omega),if_neg (by omega)]; exact u _ _ (by omega) (by omega)
noncomputable def it (m:Nat):Nat->Nat->Nat
 | 0,x=>x
 | n + 1,x=>it m n ((x * 5 + 1) % m)
theorem qy (m a:Nat):∀ b x,it m (b + a) x=it m a (it m b x):=by
 intro b
 induction b with
 | zero=>intro x; rw [Nat.zero_add]; rfl
 | succ b ih=>intro x; rw [Nat.succ_add]; exact ih _
noncomputable def round (m:Nat):Bool:=it m m 0 == 0&&(List.range m).all λy=>(List.range m).any λn=>it m n 0 == y
theorem CV {m:Nat}(h:round m=true){x y:Nat}(hx:x < m)(hy:y < m):∃ n,n < m/\it m n x=y:=by
 obtain ⟨h1,h2⟩:=Bool.and_eq_true_iff.mp h
 have h0:it m m 0=0:=by simpa using h1
 have on:∀ y,y < m->∃ n,n < m/\it m n 0=y:=λy hy=>by
  have h3:=List.all_eq_true.mp h2 y (List.mem_range.mpr hy);obtain ⟨n,hn,e⟩:=List.any_eq_true.mp h3;exact ⟨n,List.mem_range.mp hn,by simpa using e⟩
 obtain ⟨a,ha,rfl⟩:=on x hx;obtain ⟨b,hb,rfl⟩:=on y hy
 rcases Nat.lt_or_ge b a with g | g
 ·refine ⟨(m - a) + b,by omega,?_⟩
  have e:it m (m - a) (it m a 0)=0:=by rw [<-qy,show a + (m - a)=m from by omega,h0]
  rw [qy,e]
 ·exact ⟨b - a,by omega,by rw [<-qy,show a + (b - a)=b from by omega]⟩
theorem AU:round 8=true:=by decide +kernel
theorem zT:round 32=true:=by decide +kernel
theorem yw:round 128=true:=by decide +kernel
noncomputable def ju (k:Nat):Prop:=k=7\/k=31\/k=127
theorem ju.round {k:Nat}(h:ju k):St.round (k + 1)=true:=by
 rcases h with rfl | rfl | rfl
 ·exact AU
 ·exact zT
 ·exact yw
noncomputable def lp (mask:Nat):Nat->Nat->Nat->Nat × Nat
 | 0,i,p=>(i,p)
 | n + 1,i,p=>lp mask n (SetTable.leap mask i p).1 (SetTable.leap mask i p).2
theorem AR (mask a:Nat):∀ b i p,lp mask (b + a) i p=lp mask a (lp mask b i p).1 (lp mask b i p).2:=by
 intro b
 induction b with
 | zero=>intro i p; rw [Nat.zero_add]; rfl
 | succ b ih=>intro i p; rw [Nat.succ_add]; exact ih _ _
theorem D9 (mask:Nat):∀ n i p,(lp mask n i p).2=p / 32 ^ n:=by
 intro n
 induction n with
 | zero=>intro i p; show p=_; rw [Nat.pow_zero,Nat.div_one]
 | succ n ih =>
   intro i p;show (lp mask n _ _).2=_;rw [ih];show p / 32 / 32 ^ n=_;rw [Nat.div_div_eq_div_mul,Nat.pow_succ,Nat.mul_comm]
theorem CN (mask:Nat):∀ n i p,i < mask + 1->(lp mask n i p).1 < mask + 1:=by
 intro n
 induction n with
 | zero=>intro i p h; exact h
 | succ n ih=>intro i p h; exact ih _ _ (Nat.mod_lt _ (Nat.succ_pos _))
theorem De (mask:Nat):∀ n i,(lp mask n i 0).1=it (mask + 1) n i:=by
 intro n
 induction n with
 | zero=>intro i; rfl
 | succ n ih=>intro i; exact ih _
theorem Ax {mask:Nat}(hm:ju mask){i p y:Nat}(hi:i < mask + 1)(hp:p < 2 ^ 64)(hy:y < mask + 1):∃ n,n < mask + 15/\(lp mask n i p).1=y:=by
 have e:(lp mask 13 i p).2=0:=by
  rw [D9]; exact Nat.div_eq_of_lt (Nat.lt_trans hp (by decide))
 obtain ⟨n,hn,h⟩:=CV hm.round (CN mask 13 i p hi) hy;refine ⟨13 + n,by omega,?_⟩;rw [AR,e,De,h]
theorem sr (h:Int):SetTable.bits h < 2 ^ 64:=by
 unfold SetTable.bits;have h1:0<=h % (2 ^ 64:Int):=Int.emod_nonneg _ (by decide);have h2:h % (2 ^ 64:Int) < 2 ^ 64:=Int.emod_lt_of_pos _ (by decide);omega
theorem v3 {mask i:Nat}(h:i < mask + 1):SetTable.runEnd mask i < mask + 1/\i<=SetTable.runEnd mask i/\SetTable.runEnd mask i<=i + 9:=by
 unfold SetTable.runEnd
 split <;> omega
theorem zK {mask:Nat}{owner:Array (Option Nat)}:∀ (n f i p y:Nat),i < mask + 1->n < f->(lp mask n i p).1=y->owner.getD y (some 0)=none →
 ∃ j,SetTable.layClean.free mask owner f i p=some j/\owner.getD j (some 0)=none:=by
 intro n
 induction n with
 | zero =>
   intro f i p y hi hf hy ho;obtain ⟨f,rfl⟩:∃ g,f=g + 1:=⟨f - 1,by omega⟩
   cases (show i=y from hy)
   unfold SetTable.layClean.free
   cases e:(List.range (SetTable.runEnd mask i + 1 - i)).find? λk=>(owner.getD (i + k) (some 0)).isNone with
   | some k =>
     have:=List.find?_some e;exact ⟨i + k,rfl,by simpa using this⟩
   | none =>
     have h0:=List.find?_eq_none.mp e 0 (List.mem_range.mpr (by have:=v3 hi; omega));rw [Nat.add_zero,ho] at h0;exact absurd rfl h0
 | succ n ih =>
   intro f i p y hi hf hy ho;obtain ⟨f,rfl⟩:∃ g,f=g + 1:=⟨f - 1,by omega⟩;unfold SetTable.layClean.free
   cases e:(List.range (SetTable.runEnd mask i + 1 - i)).find? λk=>(owner.getD (i + k) (some 0)).isNone with
   | some k =>
     have:=List.find?_some e;exact ⟨i + k,rfl,by simpa using this⟩
   | none=>exact ih f _ _ y (Nat.mod_lt _ (Nat.succ_pos _)) (by omega) hy ho
theorem vb {t:T}{h:Int}(u:Up t.place)(d:t.dummies = #[]){F:Nat}:∀ (k f:Nat)(p:SetTable.Probe),p.more=k->p.dummy=none->k + 1 + F=f →
 (∀ q:SetTable.Probe,q.j=q.i->q.more=SetTable.runEnd t.mask q.i - q.i->q.dummy=none->(q.i,q.perturb)=SetTable.leap t.mask p.i p.perturb->∃ j,SetTable.probe.go t (λ_=>h + 1) h F q=some (.empty j none)/\¬ vC t.place j) →
 ∃ j,SetTable.probe.go t (λ_=>h + 1) h f p=some (.empty j none)/\¬ vC t.place j:=by
 intro k
 induction k with
 | zero =>
   intro f p hk hd hf hn;obtain ⟨f,rfl⟩:∃ g,f=g + 1:=⟨f - 1,by omega⟩
   have hF:F=f:=by omega
   subst hF;unfold SetTable.probe.go
   by_cases g:vC t.place p.j
   ·obtain ⟨i,e⟩:=mf u g;rw [e];dsimp only;rw [if_neg (by simp; omega)];refine hn _ ?_ ?_ ?_ ?_ <;> unfold SetTable.advance <;> rw [if_neg (by omega)]
    ·exact hd
   ·rw [iq u d g];exact ⟨_,by rw [hd],g⟩
 | succ k ih =>
   intro f p hk hd hf hn;obtain ⟨f,rfl⟩:∃ g,f=g + 1:=⟨f - 1,by omega⟩;unfold SetTable.probe.go
   by_cases g:vC t.place p.j
   ·obtain ⟨i,e⟩:=mf u g;rw [e];dsimp only;rw [if_neg (by simp; omega)]
    have ea:t.advance p={ p with j:=p.j + 1,more:=p.more - 1 }:=by unfold SetTable.advance; rw [if_pos (by omega)]
    rw [ea];exact ih f _ (by show p.more - 1=k; omega) hd (by omega) hn
   ·rw [iq u d g];exact ⟨_,by rw [hd],g⟩
theorem wJ {t:T}{h:Int}(u:Up t.place)(d:t.dummies = #[]):∀ (n f:Nat)(p:SetTable.Probe)(y:Nat),p.i < t.mask + 1->p.j=p.i->p.more=SetTable.runEnd t.mask p.i - p.i->p.dummy=none →
 10 * n < f->(lp t.mask n p.i p.perturb).1=y->¬ vC t.place y->∃ j,SetTable.probe.go t (λ_=>h + 1) h f p=some (.empty j none)/\¬ vC t.place j:=by
 intro n
 induction n with
 | zero =>
   intro f p y hi hj hm hd hf hy hn;obtain ⟨f,rfl⟩:∃ g,f=g + 1:=⟨f - 1,by omega⟩;have e:p.j=y:=hj.trans hy;unfold SetTable.probe.go;rw [e,iq u d hn];exact ⟨_,by rw [hd],hn⟩
 | succ n ih =>
   intro f p y hi hj hm hd hf hy hn;have hr:=v3 hi;refine vb u d (F:=f - (p.more + 1)) p.more f p rfl hd (by omega) λq q1 q2 q3 q4=>?_;have e1:q.i=(SetTable.leap t.mask p.i p.perturb).1:=congrArg Prod.fst q4;have e2:q.perturb=(SetTable.leap t.mask p.i p.perturb).2:=congrArg Prod.snd q4;refine ih _ q y (by rw [e1]; exact Nat.mod_lt _ (Nat.succ_pos _)) q1 q2 q3 (by omega) ?_ hn;rw [e1,e2]; exact hy
theorem Cb {xs:Array Nat}(u:Up xs):∀ m,(∀ y,y < m + 1->vC xs y)->∃ k,k < xs.size/\xs.getD k 0=m/\m<=k:=by
 intro m
 induction m with
 | zero=>intro h; obtain ⟨k,hk,e⟩:=h 0 (by omega); exact ⟨k,hk,e,Nat.zero_le _⟩
 | succ m ih =>
   intro h;obtain ⟨k,hk,e,hl⟩:=ih λy hy=>h y (by omega);obtain ⟨q,hq,e2⟩:=h (m + 1) (by omega);refine ⟨q,hq,e2,?_⟩
   rcases Nat.lt_trichotomy k q with g | g | g
   ·omega
   ·subst g; omega
   ·have:=u _ _ g hk; omega
theorem spare {xs:Array Nat}(u:Up xs){m:Nat}(h:xs.size < m + 1):∃ y,y < m + 1/\¬ vC xs y:=by
 refine Classical.byContradiction λn=>?_;obtain ⟨k,hk,_,hl⟩:=Cb u m λy hy=>Classical.byContradiction λg=>n ⟨y,hy,g⟩;omega
theorem uz {t:T}(hm:ju t.mask)(u:Up t.place)(d:t.dummies = #[])(hs:t.place.size < t.mask + 1)(h:Int):∃ j,t.freeSlot h=some (j,false)/\¬ vC t.place j:=by
 obtain ⟨y,hy,hn⟩:=spare u hs;have hi:SetTable.bits h % (t.mask + 1) < t.mask + 1:=Nat.mod_lt _ (Nat.succ_pos _);obtain ⟨n,hl,e⟩:=Ax hm hi (sr h) hy;obtain ⟨j,e2,hj⟩:=wJ (h:=h) u d n (10 * SetTable.turns t.mask) (t.probeStart h) y hi rfl rfl rfl (by unfold SetTable.turns; omega) e hn;refine ⟨j,?_,hj⟩;unfold SetTable.freeSlot SetTable.probe;rw [e2];rfl
noncomputable def zk (owner:Array (Option Nat))(m:Nat):List Nat:=(List.range m).filterMap λj=>owner.getD j none
structure Laid (owner:Array (Option Nat))(m k:Nat):Prop where
 size:owner.size=m
 all:(zk owner m).Perm (List.range k)
theorem vq {owner:Array (Option Nat)}{j:Nat}(h:owner.getD j (some 0)=none):j < owner.size/\owner.getD j none=none:=by
 rcases Nat.lt_or_ge j owner.size with g | g
 ·refine ⟨g,?_⟩;rw [<-h]; simp [Array.getD,g]
 ·simp [Array.getD,Nat.not_lt.mpr g] at h
theorem oa {α β:Type}{f:α->Option β}:∀ {l:List α},(∀ x,x∈l->f x≠none)->(l.filterMap f).length=l.length
 | [],_=>rfl
 | x :: l,h=>by
   obtain ⟨y,e⟩:=Option.ne_none_iff_exists'.mp (h x List.mem_cons_self);rw [List.filterMap_cons_some e,List.length_cons,List.length_cons,oa λz hz=>h z (List.mem_cons_of_mem _ hz)]
theorem Laid.spare {owner:Array (Option Nat)}{m k:Nat}(L:Laid owner m k)(h:k < m):∃ y,y < m/\owner.getD y (some 0)=none:=by
 refine Classical.byContradiction λn=>?_
 have e:(zk owner m).length=m:=by
  unfold zk;rw [oa,List.length_range];intro y hy e;have ME:=List.mem_range.mp hy;refine n ⟨y,ME,?_⟩;rw [<-e]; simp [Array.getD,L.size,ME]
 rw [L.all.length_eq,List.length_range] at e;omega
theorem jU {α β:Type}{f g:α->Option β}:∀ {l:List α},(∀ x,x∈l->f x=g x)->l.filterMap f=l.filterMap g
 | [],_=>rfl
 | x :: l,h=>by
   rw [List.filterMap_cons,List.filterMap_cons,h x List.mem_cons_self,jU λz hz=>h z (List.mem_cons_of_mem _ hz)]
theorem zq {owner:Array (Option Nat)}{m j k:Nat}(hs:owner.size=m)(hj:j < m)(ho:owner.getD j none=none):(zk (owner.setIfInBounds j (some k)) m).Perm (k :: zk owner m):=by
 obtain ⟨a,b,e⟩:=List.append_of_mem (List.mem_range.mpr hj);have nd:(a++j :: b).Nodup:=e ▸ List.nodup_range
 have na:∀ x,x∈a->x≠j:=λx hx q=>by
  rw [List.nodup_append] at nd;exact nd.2.2 x hx j List.mem_cons_self q
 have nb:∀ x,x∈b->x≠j:=λx hx q=>by
  rw [List.nodup_append] at nd;exact (List.nodup_cons.mp nd.2.1).1 (q ▸ hx)
 have ne:∀ x,x≠j->(owner.setIfInBounds j (some k)).getD x none=owner.getD x none:=λx hx=>by
  rw [Array.getD_eq_getD_getElem?,Array.getD_eq_getD_getElem?,Array.getElem?_setIfInBounds_ne (Ne.symm hx)]
 have ej:(owner.setIfInBounds j (some k)).getD j none=some k:=by
  rw [Array.getD_eq_getD_getElem?,Array.getElem?_setIfInBounds_self_of_lt (by omega)]; rfl
 unfold zk;rw [e,List.filterMap_append,List.filterMap_append,List.filterMap_cons,List.filterMap_cons,ej,ho];dsimp only;rw [jU λx hx=>ne x (na x hx),jU λx hx=>ne x (nb x hx)];exact List.perm_middle
theorem vt {mask:Nat}(hm:ju mask):∀ (hs:List Int)(owner:Array (Option Nat))(k:Nat),Laid owner (mask + 1) k->k + hs.length < mask + 1 →
 ∃ Im,hs.foldl (λacc h=>do
   let (owner,k) <-acc
   let j <-SetTable.layClean.free mask owner (SetTable.turns mask) (SetTable.bits h % (mask + 1)) (SetTable.bits h)
   pure (owner.setIfInBounds j (some k),k + 1)) (some (owner,k))=some (Im,k + hs.length)/\Laid Im (mask + 1) (k + hs.length):=by
 intro hs
 induction hs with
 | nil=>intro owner k L _; exact ⟨owner,rfl,L⟩
 | cons h hs ih =>
   intro owner k L hl;rw [List.length_cons] at hl;obtain ⟨y,hy,ho⟩:=L.spare (by omega);have hi:SetTable.bits h % (mask + 1) < mask + 1:=Nat.mod_lt _ (Nat.succ_pos _);obtain ⟨n,hn,e⟩:=Ax hm hi (sr h) hy;obtain ⟨j,ej,hj⟩:=zK n (SetTable.turns mask) _ _ y hi (by unfold SetTable.turns; omega) e ho;obtain ⟨j1,j2⟩:=vq hj
   have L':Laid (owner.setIfInBounds j (some k)) (mask + 1) (k + 1):=by
    refine ⟨by rw [Array.size_setIfInBounds]; exact L.size,(zq L.size (by rw [<-L.size]; exact j1) j2).trans ?_⟩;rw [List.range_succ];exact (List.Perm.cons k L.all).trans (List.perm_append_singleton k _).symm
   obtain ⟨o',e',l'⟩:=ih _ _ L' (by omega);refine ⟨o',?_,by rw [List.length_cons,show k + (hs.length + 1)=k + 1 + hs.length from by omega]; exact l'⟩;rw [List.foldl_cons,List.length_cons,show k + (hs.length + 1)=k + 1 + hs.length from by omega];show List.foldl _ ((SetTable.layClean.free mask owner (SetTable.turns mask) (SetTable.bits h % (mask + 1)) (SetTable.bits h)).bind _) hs=_;rw [ej];exact e'
theorem wV (m:Nat):zk (Array.replicate m none) m=[]:=by
 unfold zk;rw [List.filterMap_eq_nil_iff];intro j hj;have RD:=List.mem_range.mp hj;simp [Array.getD,RD]
theorem rp {mask:Nat}(hm:ju mask)(hs:Array Int)(h:hs.size < mask + 1):∃ owner,SetTable.layClean mask hs=some owner/\Laid owner (mask + 1) hs.size:=by
 obtain ⟨o,e,l⟩:=vt hm hs.toList (Array.replicate (mask + 1) none) 0 ⟨Array.size_replicate,by rw [wV]; exact List.Perm.refl _⟩ (by rw [Array.length_toList]; omega);rw [Array.length_toList,Nat.zero_add] at e l;refine ⟨o,?_,l⟩;unfold SetTable.layClean;rw [<-Array.foldl_toList];rw [e];rfl
theorem Dk {l:List Nat}(h:l.Pairwise (· < ·)):Up l.toArray:=by
 intro i j GN hj;rw [List.size_toArray] at hj;have:=List.pairwise_iff_getElem.mp h i j (by omega) hj GN;rw [show l.toArray.getD i 0=l[i] from by simp [Array.getD,show i < l.length from by omega],show l.toArray.getD j 0=l[j] from by simp [Array.getD,hj]];exact this
theorem pP {t:T}{hs:Array Int}{wanted mask:Nat}(em:SetTable.sizeAbove wanted - 1=mask)(hm:ju mask)(h:hs.size < mask + 1):
 ∃ t' order,t.relaid hs wanted=some (t',order)/\t'.mask=mask/\t'.dummies = #[]/\t'.led=t.led/\t'.plain=t.plain/\Up t'.place/\t'.place.size=hs.size/\order.toList.Perm (List.range hs.size):=by
 obtain ⟨o,e,l⟩:=rp hm hs h;unfold SetTable.relaid SetTable.laid;rw [em,e];refine ⟨_,_,rfl,rfl,rfl,rfl,rfl,?_,?_,?_⟩
 ·dsimp only;rw [List.map_filterMap];refine Dk (List.Pairwise.filterMap _ (λa a' ZT b hb b' Fq=>?_) (List.pairwise_lt_range (n:=mask + 1)))
  cases ea:o.getD a none with
  | none=>rw [ea] at hb; cases hb
  | some x =>
    cases W7:o.getD a' none with
    | none=>rw [W7] at Fq; cases Fq
    | some x' =>
      rw [ea] at hb; rw [W7] at Fq
      cases hb; cases Fq
      exact ZT
 ·have e1:=l.all.length_eq;rw [List.length_range] at e1;dsimp only;rw [List.size_toArray,List.length_map,<-e1];unfold zk;rw [show (λj=>o.getD j none)=(λj=>((o.getD j none).map (j,·)).map Prod.snd) from funext λj=>by cases o.getD j none <;> rfl,<-List.map_filterMap,List.length_map]
 ·dsimp only;rw [List.map_filterMap]
  have e2:(λx=>Option.map (λx=>x.snd) (Option.map (λx_1=>(x,x_1)) (o.getD x none)))=λj=>o.getD j none:=funext λj=>by cases o.getD j none <;> rfl
  rw [e2];exact l.all
structure Ok (led:Bool)(n:Nat)(t:T):Prop where
 mask:ju t.mask
 room:n * 5 < t.mask * 3
 size:t.place.size=n
 up:Up t.place
 dum:t.dummies = #[]
 plain:t.plain=true
 led:t.led=led
theorem Ok.fits {led:Bool}{n:Nat}{t:T}(o:Ok led n t):t.fits n=true:=by
 have h1:=o.room;have h2:=o.size;simp only [SetTable.fits,SetTable.fill,Bool.and_eq_true,beq_iff_eq,decide_eq_true_eq,o.dum];refine ⟨h2,?_⟩;rw [h2,Array.size_empty];omega
theorem Ok.fresh (led:Bool):Ok led 0 (.fresh 0 0 led):=
 ⟨.inl rfl,by show 0 * 5 < 7 * 3; decide,rfl,λi j _ h=>absurd h (Nat.not_lt_zero _),rfl,rfl,rfl⟩
theorem zc {led:Bool}{n:Nat}{t:T}(o:Ok led n t){es:Array (Int × Value)}(he:es.size=n)(h:Int)(x:Value):∃ es' t',layNew t es h x=(es',t',false,false)/\es'.size=n + 1 /\
 ju t'.mask/\t'.mask=t.mask/\t'.place.size=n + 1/\Up t'.place/\t'.dummies = #[]/\t'.plain=true/\t'.led=led/\t'.fits (n + 1)=true:=by
 have hr:=o.room;have hs:=o.size;obtain ⟨j,ej,hj⟩:=uz o.mask o.up o.dum (by rw [hs]; omega) h;have c:=eJ o.up j
 have e1:(SetTable.insertAt t.place (SetTable.below t.place j) j).size=n + 1:=by rw [eC _ _ _ c.1,hs]
 have e2:(SetTable.insertAt es (SetTable.below t.place j) (h,x)).size=n + 1:=by rw [eC _ _ _ (by have:=c.1; omega),he]
 have e3:SetTable.has t.dummies j=false:=by rw [o.dum]; simp [SetTable.has]
 have ep:t.put j=({ t with place:=SetTable.insertAt t.place (SetTable.below t.place j) j },SetTable.below t.place j):=by
  unfold SetTable.put; dsimp only; rw [e3]; rfl
 have ef:SetTable.fits { t with place:=SetTable.insertAt t.place (SetTable.below t.place j) j } (n + 1)=true:=by
  simp only [SetTable.fits,SetTable.fill,Bool.and_eq_true,beq_iff_eq,decide_eq_true_eq,o.dum];refine ⟨e1,?_⟩;rw [e1,Array.size_empty];omega
 refine ⟨SetTable.insertAt es (SetTable.below t.place j) (h,x),{ t with place:=SetTable.insertAt t.place (SetTable.below t.place j) j },?_,e2,o.mask,rfl,e1,uI o.up hj,o.dum,o.plain,o.led,ef⟩;unfold layNew;rw [ej];dsimp only;rw [ep];dsimp only;unfold SetTable.orStandIn;rw [e2,ef];rfl
theorem zo:SetTable.sizeAbove (SetTable.grown 5) - 1=31:=by decide
theorem yF:SetTable.sizeAbove (SetTable.grown 19) - 1=127:=by decide
theorem uZ {led:Bool}{n:Nat}{t:T}(hn:n < 76)(hm:ju t.mask)(hr:n * 5 < t.mask * 3)(hs:t.place.size=n + 1)(d:t.dummies = #[])(hp:t.plain=true)(hl:t.led=led)
 {es:Array (Int × Value)}(he:es.size=n + 1)(hf:t.tooFull=true):∃ es' t',relayAll t es (SetTable.grown es.size)=(es',t',false)/\es'.size=n + 1/\Ok led (n + 1) t':=by
 have full:(n + 1) * 5 ≥ t.mask * 3:=by
  have:=hf;simp only [SetTable.tooFull,SetTable.fill,hs,d,Array.size_empty,decide_eq_true_eq] at this;omega
 have two:(t.mask=7/\n + 1=5)\/(t.mask=31/\n + 1=19):=by
  rcases hm with e | e | e <;> omega
 obtain ⟨mask,em,JN,Fd,NO⟩:∃ mask,SetTable.sizeAbove (SetTable.grown es.size) - 1=mask/\ju mask/\n + 1 < mask + 1/\(n + 1) * 5 < mask * 3:=by
  rw [he]
  rcases two with ⟨_,e⟩ | ⟨_,e⟩
  ·exact ⟨31,by rw [e]; exact zo,.inr (.inl rfl),by omega,by omega⟩
  ·exact ⟨127,by rw [e]; exact yF,.inr (.inr rfl),by omega,by omega⟩
 have e0:(es.map (·.1)).size=n + 1:=by rw [Array.size_map]; exact he
 obtain ⟨t',order,er,m1,m2,m3,m4,m5,m6,m7⟩:=pP (t:=t) (hs:=es.map (·.1)) em JN (by rw [e0]; exact Fd);rw [e0] at m6 m7
 have es':(order.filterMap (es[·]?)).size=n + 1:=by
  have:=(m7.filterMap (λi=>es[i]?)).length_eq;rw [<-he,filterMap_getElem?_range] at this;rw [<-Array.length_toList,Array.toList_filterMap];refine this.trans ?_;rw [Array.length_toList,he]
 have O:Ok led (n + 1) t':=⟨by rw [m1]; exact JN,by rw [m1]; exact NO,m6,m5,m2,m4.trans hp,m3.trans hl⟩;refine ⟨order.filterMap (es[·]?),t',?_,es',O⟩;unfold relayAll;rw [er];dsimp only
 have c:coversAll order es.size=true:=by unfold coversAll; rw [he]; exact List.isPerm_iff.mpr m7
 rw [es',c,O.fits];rfl
open PyProof.Rows
noncomputable def num:Value->Int
 | .int n _=>n
 | _=>0
noncomputable abbrev Ent:=Int × Value
noncomputable def ED (e:Ent):Prop:=∃ n t,e=(hashInt n,.int n t)
structure Cont (es:Array Ent)(ns:List Int):Prop where
 isI:∀ e,e∈es.toList->ED e
 perm:(es.toList.map λe=>num e.2).Perm ns
noncomputable abbrev i9 (es:Array Ent)(ep:Nat)(t:T):Obj:={ cls:=.type "set",dict:=none,data:=.set es ep t,slots:=#[] }
noncomputable def i5 (led:Bool)(h:Heap)(a:Addr)(ns:List Int):Prop:=∃ es ep t,h.get? a=some (i9 es ep t)/\Cont es ns/\es.size=ns.length/\Ok led ns.length t
theorem oK:∀ {vs:List Value},(∀ v,v∈vs->∃ n t,v = .int n t)->IntsAre vs (vs.map num)
 | [],_=>.nil
 | v :: vs,h=>by
   obtain ⟨n,t,rfl⟩:=h v List.mem_cons_self;exact .cons n t (oK λu hu=>h u (List.mem_cons_of_mem _ hu))
section
variable {prog:Program}{w:World}{A:Around}{E:Value->Shared->Prop}{s:Shared}
theorem Cont.elems {es:Array Ent}{ns:List Int}(c:Cont es ns):ElemsOf (intKind prog w) es.toList:=by
 intro e he;obtain ⟨n,t,rfl⟩:=c.isI e he;exact ⟨⟨n,intKind_is _ _ _ _,rfl⟩,rfl⟩
theorem Cont.has {es:Array Ent}{ns:List Int}(c:Cont es ns)(k:Int):(∃ e,e∈es.toList/\(intKind prog w).is k e.2=true) ↔ k∈ns:=by
 rw [<-c.perm.mem_iff,List.mem_map];constructor
 ·rintro ⟨e,he,hk⟩;obtain ⟨n,t,rfl⟩:=c.isI e he;refine ⟨_,he,?_⟩;exact (intKind prog w).inj (.int n t) n k (intKind_is _ _ _ _) hk
 ·rintro ⟨e,he,hk⟩;obtain ⟨n,t,rfl⟩:=c.isI e he
  cases (show n=k from hk)
  exact ⟨_,he,intKind_is _ _ _ _⟩
theorem Cont.push {es es':Array Ent}{ns:List Int}(c:Cont es ns){k:Int}{tk:Tok}(p:es'.toList.Perm (es.toList++[(hashInt k,.int k tk)])):Cont es' (ns++[k]):=by
 refine ⟨λe he=>?_,?_⟩
 ·rcases List.mem_append.mp (p.mem_iff.mp he) with h | h
  ·exact c.isI e h
  ·rw [List.mem_singleton] at h; exact ⟨k,tk,h⟩
 ·refine (p.map _).trans ?_;rw [List.map_append];exact c.perm.append (List.Perm.refl _)
theorem Cont.perm' {es es':Array Ent}{ns:List Int}(c:Cont es ns)(p:es'.toList.Perm es.toList):Cont es' ns :=
 ⟨λe he=>c.isI e (p.mem_iff.mp he),(p.map _).trans c.perm⟩
theorem pU {ns:List Int}{k:Int}(h:k∈ns):step_dedup ns k=ns:=by
 unfold step_dedup; rw [if_pos (List.any_eq_true.mpr ⟨k,h,by simp⟩)]
theorem iK {ns:List Int}{k:Int}(h:k ∉ ns):step_dedup ns k=ns++[k]:=by
 unfold step_dedup; rw [if_neg λg=>?_];obtain ⟨x,hx,e⟩:=List.any_eq_true.mp g;exact h ((by simpa using e:x=k) ▸ hx)
theorem rG {h:Heap}{a:Addr}{es es':Array Ent}{ep:Nat}{t t':T}(ho:h.get? a=some (i9 es ep t)):(h.update a (Obj.putSet es' t')).get? a=some (i9 es' (ep + 1) t'):=
 Heap.get?_update_self (Obj.putSet es' t') ho rfl
theorem CY {led:Bool}{a:Addr}{ns:List Int}{k:Int}{tk:Tok}{Q:Bool->Shared->Prop}(S:i5 led s.heap a ns)(hn:ns.length < 76)
 (hQ:∀ b h',Heap.SameBut a s.heap h'->i5 led h' a (step_dedup ns k)->Q b { s with heap:=h' }):wpAny (model prog w) A (setAddHashed a (.int k tk) (hashInt k)) Q E s:=by
 obtain ⟨es,ep,t,ho,c,hz,O⟩:=S
 have hf:t.fits es.size=true:=by rw [hz]; exact O.fits
 have W8:ElemsOf (intKind prog w) es.toList:=c.elems
 have hb:es.size < scanBound:=by show _ < 4096; omega
 unfold setAddHashed setAddHashedIn;refine wpAny_holding (wpAny_bind (wpAny_setState_of ho rfl hf ?_));dsimp only;rw [byScan_of (knd:=intKind prog w) rfl hb W8,if_pos rfl];unfold setAddByScan;refine wpAny_bind (wpAny_bind (wpAny_rule (wpAny_bind (wpAny_setScan_of (knd:=intKind prog w) (intKind_is _ _ k tk) ho rfl hf W8 ?_))))
 cases hr:List.findIdx? (λe=>(intKind prog w).is k e.2) es.toList with
 | some j =>
   obtain ⟨hj,ZU,_⟩:=List.findIdx?_eq_some_iff_getElem.mp hr;have hk:k∈ns:=(c.has (prog:=prog) (w:=w) k).mp ⟨_,List.getElem_mem hj,ZU⟩;refine wpAny_pure (wpAny_pure ?_);have:=hQ false s.heap (Heap.SameBut.refl a s.heap) (by rw [pU hk]; exact ⟨es,ep,t,ho,c,hz,O⟩)
   cases s; exact this
 | none =>
   have hk:k ∉ ns:=λh=>by
    obtain ⟨e,he,hp⟩:=(c.has (prog:=prog) (w:=w) k).mpr h;have:=List.findIdx?_eq_none_iff.mp hr e he;rw [hp] at this; cases this
   obtain ⟨MJ,t1,eL,z1,m1,m2,p1,u1,d1,TC,l1,f1⟩:=zc O hz (hashInt k) (.int k tk);have hp:=layNew_perm t es (hashInt k) (.int k tk);rw [eL,Array.toList_push] at hp;have c1:Cont MJ (ns++[k]):=c.push hp;dsimp only;rw [eL];dsimp only;refine wpAny_bind (wpAny_pure ?_);rw [TC,if_pos rfl,hashByValue_scannable 8 (x:=.int k tk) rfl];refine wpAny_bind (wpAny_pure ?_);rw [if_pos (show plainKind (.int k tk)=true from rfl)]
   have len:(ns++[k]).length=ns.length + 1:=by rw [List.length_append]; rfl
   refine wpAny_bind (wpAny_storeSet_of ho rfl ?_ (fits_of_scanBound (by rw [z1]; show _ < 4096; omega)));have IY:=rG (es':=MJ) (t':=t1) ho;have JU:=Heap.SameBut.update s.heap a (Obj.putSet MJ t1)
   by_cases Io:t1.tooFull=true
   ·obtain ⟨ZV,t2,eR,z2,O2⟩:=uZ hn m1 (by rw [m2]; exact O.room) p1 d1 TC l1 z1 Io;have Rm:=relayAll_perm t1 MJ (SetTable.grown MJ.size);rw [eR] at Rm;rw [if_pos (by rw [Io]; rfl)];rw [eR];dsimp only;refine wpAny_bind (wpAny_pure ?_);refine wpAny_bind (wpAny_storeSet_of IY rfl ?_ (fits_of_scanBound (by rw [z2]; show _ < 4096; omega)));refine wpAny_pure (wpAny_pure (hQ true _ (JU.trans (Heap.SameBut.update _ a _)) ?_));rw [iK hk];exact ⟨ZV,_,t2,rG IY,c1.perm' Rm,by rw [len]; exact z2,by rw [len]; exact O2⟩
   ·have W9:t1.tooFull=false:=by simpa using Io
    rw [if_neg (by rw [W9]; decide)];refine wpAny_pure (wpAny_pure (hQ true _ JU ?_));rw [iK hk];refine ⟨MJ,_,t1,IY,c1,by rw [len]; exact z1,?_⟩;rw [len];refine ⟨m1,?_,p1,u1,d1,TC,l1⟩;simp only [SetTable.tooFull,SetTable.fill,p1,d1,Array.size_empty,decide_eq_false_iff_not] at W9;omega
end
noncomputable abbrev own (w:World):Bool:=!w.params.followText "set-order"
noncomputable abbrev GE:Array GenState->Array GenState->Prop:=λa b=>b=a
structure Src (prog:Program)(w:World)(c:String)(its:Array Value)(Is:Heap->Addr->Prop)(MK:Addr->Obj):Prop where
 type:∀ h l,Is h l->∃ o,h.get? l=some o/\o.cls = .type c
 keep:∀ h h' l,Is h l->(∀ o,h.get? l=some o->h'.get? l=some o)->Is h' l
 iter:∀ (A:Around)(s:Shared) l (Q:Value->Shared->Prop)(E:Value->Shared->Prop),Is s.heap l->Q (.ref s.heap.objs.size) { s with heap:=s.heap.push (MK l) }->wpAny (model prog w) A (pyIter (.ref l)) Q E s
 walk:∀ (A:Around) I l,A.handled=none->l≠I->∃ G,WalksS prog w A I [I,l] [I] GE its.size (λi v=>its[i]?=some v) G/\∀ s:Shared,Is s.heap l->s.heap.get? I=some (MK l)->G 0 s
 itNew:∀ (h:Heap) l,(h.push (MK l)).get? h.objs.size=some (MK l)
 s1:isSubtype (.type c) (.type "set")=pure false
 s2:isSubtype (.type c) (.type "frozenset")=pure false
 nd:(Value.type c == Value.type "dict")=false
section
variable {prog:Program}{w:World}{A:Around}{R:Result->Shared->Prop}{I:Addr}{fp wr:List Addr}{n:Nat}{P:Nat->Value->Prop}{G:Nat->Shared->Prop}
theorem uW {led:Bool}(W:WalksS prog w A.in1 I fp wr GE n P G)(a:Addr)(ha:a ∉ fp)(val:Nat->Int)(hv:∀ i v,P i v->∃ t,v = .int (val i) t)(hn:n < 76):
 ∀ (k i:Nat)(s:Shared),n - i=k->i<=n->G i s->i5 led s.heap a (firstMet val i) →
   (∀ z,Moved (a :: wr) GE s z->i5 led z.heap a (firstMet val n)->R (.ok (.ret .none)) z) →
   codeAny (model prog w) A (.builtin "set.update.loop" ⟨[.ref a,.ref I],[]⟩) R s:=by
 have aw:a ∉ wr:=λh=>ha (W.sub _ h);have up:∀ b,b∈wr->b∈a :: wr:=λb hb=>List.mem_cons_of_mem _ hb;have mv:∀ {y z:Shared}{ns:List Int},Moved wr GE y z->i5 led y.heap a ns->i5 led z.heap a ns:=λm ⟨es,ep,t,o,r⟩=>⟨es,ep,t,m.heap a _ aw o,r⟩;intro k
 induction k with
 | zero =>
   intro i s hk hi g S hR
   cases (show i=n by omega)
   refine codeAny_builtin PyProof.Rows.F.entry_set_update_loop ?_;rw [Around.under_plainId PyProof.Rows.F.plain_set_update_loop _];refine wpAny_bind (m:=pyNext (.ref I)) ?_;exact W.done s _ _ g λz m=>wpAny_pure (hR z (m.mono up) (mv m S))
 | succ k ih =>
   intro i s hk hi g S hR;refine codeAny_builtin PyProof.Rows.F.entry_set_update_loop ?_;rw [Around.under_plainId PyProof.Rows.F.plain_set_update_loop _];refine wpAny_bind (m:=pyNext (.ref I)) ?_;refine W.item i s _ _ (by omega) g λv z hp g1 m=>?_;obtain ⟨t,rfl⟩:=hv i v hp;refine wpAny_bind (m:=holding [Value.int (val i) t] (setAdd a (.int (val i) t))) (wpAny_holding ?_);unfold setAdd;refine wpAny_holding (wpAny_bind ((intKind prog w).pyHash (k:=val i) (intKind_is _ _ _ _) ?_));refine CY (s:={ z with toks:=z.toks + 1 }) (show i5 led z.heap a _ from mv m S) (by have:=firstMet_length_le val i; omega) λb h' sb S1=>?_;rw [<-firstMet_succ] at S1;refine wpAny_pure ⟨plainId_quiet PyProof.Rows.F.plain_set_update_loop _,ih (i + 1) _ (by omega) (by omega) (W.frame _ z _ _ g1 (Nat.le_succ _) λb hb o e=>?_) S1 λy m1 S2=>?_⟩
   ·rw [sb.2 b λh:b=a=>ha (h ▸ hb)]; exact e
   ·refine hR y (Moved.trans W.gtrans ((m.mono up).then_heap (Nat.le_succ _) λb o hb e=>?_) m1) S2;rw [sb.2 b λh:b=a=>hb (by rw [h]; exact List.mem_cons_self)]; exact e
end
section
variable {prog:Program}{w:World}{A:Around}{E:Value->Shared->Prop}{s:Shared}
noncomputable abbrev nj (w:World):Obj:=i9 #[] 0 (.fresh 0 0 (own w))
theorem C2 (v:Value){Q:Value->Shared->Prop}(h:Q (.ref s.heap.objs.size) { s with heap:=s.heap.push (nj w) }):
 codeAny (model prog w) A (.call (.builtin "set.__new__") ⟨[.type "set",v],[]⟩) (wants Q E) s:=by
 refine codeAny_of_tree (show wpAny _ A.in1 (checkBuiltinCall "set.__new__" ⟨[.type "set",v],[]⟩ >>= λ_=>again (.builtin "set.__new__" ⟨[.type "set",v],[]⟩)) _ _ s from ?_);refine wpAny_bind (wpAny_of_eq (F.newCall_set_1 v) (wpAny_pure ⟨plainId_quiet F.plain_set_new _,codeAny_builtin F.entry_set_new ?_⟩));rw [Around.under_plainId F.plain_set_new _];unfold Builtin.«set.__new__» Builtin.Frozenset.newClass;have su:=sub_set_self
 cases s
 dsimp only
 wp_walk
 refine wpAny_askSetting (wpAny_pure ?_);dsimp only [newObj];exact wpAny_bind (wpAny_alloc (wpAny_pure (wpAny_pure h)))
set_option maxHeartbeats 3200000 in
theorem pE {c:String}{its:Array Value}{Is:Heap->Addr->Prop}{MK:Addr->Obj}(X:Src prog w c its Is MK){l:Addr}{ns:List Int}{Q:Value->Shared->Prop}
 (hh:A.handled=none)(hl:Is s.heap l)(hi:IntsAre its.toList ns)(hb:its.size < 76)
 (h:∀ (h':Heap)(tk:Nat),i5 (own w) h' s.heap.objs.size (firstMet (λi=>ns.getD i 0) its.size)->(∀ b o,b < s.heap.objs.size->s.heap.get? b=some o->h'.get? b=some o) →
  s.toks<=tk->Q (.ref s.heap.objs.size) { s with heap:=h',toks:=tk }):
 wpAny (model prog w) A (call (.type "set") [.ref l]) Q E s:=by
 obtain ⟨_,_,mro⟩:=F.called_set.mro;have made:=F.called_set.made;have su:=F.called_set.sub;refine wpAny_call (codeAny_of_tree (show wpAny _ _ (callAny (.type "set") _) _ _ _ from wpAny_pure ⟨Code.quiet_builtin _ (by decide +kernel),codeAny_builtin F.entry_type_call ?_⟩));rw [Around.under_plain (weight_type_call_type "set" [.ref l] []) rfl];have k1:=F.called_set.notType;have k2:=F.called_set.canCreate;have k3:=F.typeCall_set_1 (.ref l)
 repeat (any_goals (first | assumption | wp_step))
 refine codeAny_mono (C2 (.ref l) (E:=E) (Q:=λv z=>v = .ref s.heap.objs.size/\z={ s with heap:=s.heap.push (nj w) }) ⟨rfl,rfl⟩) λr z hr=>?_
 cases r with
 | error e=>exact hr
 | ok fl =>
   cases fl with
   | ret obj =>
     obtain ⟨rfl,rfl⟩:=hr;have oS:(s.heap.push (nj w)).get? s.heap.objs.size=some (nj w):=Heap.get?_push_size _ rfl;have tS:Shared.TypeIs { s with heap:=s.heap.push (nj w) } (.ref s.heap.objs.size) "set":=⟨_,oS,rfl⟩;have k4:=F.called_set.init.lookup;have k5:=F.called_set.init.bind (.ref s.heap.objs.size)
     repeat (any_goals (first | assumption | wp_step))
     refine codeAny_mono (codeAny_call_builtin (R:=wants (λv z=>v = .none/\∃ h' tk,z={ s with heap:=h',toks:=tk }/\i5 (own w) h' s.heap.objs.size (firstMet (λi=>ns.getD i 0) its.size) /\
      (∀ b o,b < s.heap.objs.size->s.heap.get? b=some o->h'.get? b=some o)/\s.toks<=tk) E) F.called_set.init.plain F.entry_set_init (check_set_init_1 tS ?_)) λr z hr=>?_
     ·have lS:Is (s.heap.push (nj w)) l:=X.keep _ _ _ hl λo e=>Heap.get?_push_of_some _ e;obtain ⟨⟨oc,od,Wy,Fo⟩,Ny,JQ⟩:=X.type _ _ lS;dsimp only at JQ;subst JQ
      have Fd:l < s.heap.objs.size:=by
       obtain ⟨o,e,_⟩:=X.type _ _ hl;exact Heap.lt_size e
      have tl:Shared.TypeIs { s with heap:=s.heap.push (nj w) } (.ref l) c:=⟨_,Ny,rfl⟩;have k6:=X.s1;have k7:=X.s2;have k8:=X.nd;unfold Builtin.«set.__init__» noKeywords Builtin.Frozenset.updateFrom;generalize ZW:pyIter=PI
      wp_walk
      subst ZW;refine X.iter _ _ _ _ _ lS ?_;refine wpAny_bind (wpAny_runValue ?_)
      have h3:A.in1.in1.in1.handled=none:=by simp [hh]
      have nI:l≠(s.heap.push (nj w)).objs.size:=by rw [Heap.size_push]; exact Nat.ne_of_lt (Nat.lt_succ_of_lt Fd)
      have nf:s.heap.objs.size ∉ [(s.heap.push (nj w)).objs.size,l]:=by
       rw [Heap.size_push]; simp only [List.mem_cons,List.not_mem_nil,or_false,not_or];exact ⟨Nat.ne_of_lt (Nat.lt_succ_self _),Nat.ne_of_gt Fd⟩
      obtain ⟨G,W,g0⟩:=X.walk A.in1.in1.in1 _ l h3 nI
      refine uW W s.heap.objs.size nf (λi=>ns.getD i 0) (λi v e=>IntsAre.int_at hi i v (by rw [Array.getElem?_toList]; exact e)) hb (its.size - 0) 0 _ rfl (Nat.zero_le _)
       (g0 _ (X.keep _ _ _ lS λo e=>Heap.get?_push_of_some _ e) (X.itNew _ _)) ⟨#[],0,_,Heap.get?_push_of_some _ oS,⟨λe he=>by simp at he,List.Perm.refl _⟩,rfl,Ok.fresh _⟩ ?_
      intro z m S
      have LK:∀ b o,b < s.heap.objs.size->s.heap.get? b=some o->z.heap.get? b=some o:=λb o hb e=>by
       refine m.heap b o ?_ (Heap.get?_push_of_some _ (Heap.get?_push_of_some _ e));rw [Heap.size_push]; simp only [List.mem_cons,List.not_mem_nil,or_false,not_or];exact ⟨Nat.ne_of_lt hb,Nat.ne_of_lt (Nat.lt_succ_of_lt hb)⟩
      have ez:z={ s with heap:=z.heap,toks:=z.toks }:=by
       have e1:z.gens=s.gens:=m.gens;have e2:z.drawn=s.drawn:=m.drawn;have e3:z.os=s.os:=m.os
       cases z; cases e1; cases e2; cases e3; rfl
      refine wpAny_pure (show wpAny _ _ (ret Value.none) _ _ _ from wpAny_pure ⟨rfl,z.heap,z.toks,ez,S,LK,m.toks⟩)
     ·cases r with
      | error e=>exact hr
      | ok fl =>
        cases fl with
        | ret v =>
          obtain ⟨rfl,h',tk,rfl,S,LK,M3⟩:=hr
          repeat (any_goals (first | assumption | wp_step))
          exact h h' tk S LK M3
        | _=>exact hr.elim
   | _=>exact hr.elim
end
theorem wO (prog:Program)(w:World)(its:Array Value):Src prog w "list" its (λh l=>h.IsList l its) (λl=>{ cls:=.type "list_iterator",data:=.fields #[.ref l,.int 0 0] }) where
 type:=λh l ⟨o,e,c,_⟩=>⟨o,e,c⟩
 keep:=λh h' l ⟨o,e,r⟩ k=>⟨o,k o e,r⟩
 iter:=λA s l Q E hl h=>wpAny_pyIter_list hl h
 walk:=λA I l hh Ft=>⟨_,(Walks.list hh I l Ft its).toS,λs hl e=>⟨⟨_,e,rfl,rfl⟩,hl⟩⟩
 itNew:=λh l=>Heap.get?_push_size _ rfl
 s1:=F.sub_list_set
 s2:=F.sub_list_frozenset
 nd:=by decide
theorem y6 (prog:Program)(w:World)(its:Array Value):Src prog w "tuple" its (λh l=>h.IsTuple l its) (λl=>{ cls:=.type "tuple_iterator",data:=.fields #[.ref l,.int 0 0] }) where
 type:=λh l ⟨o,e,c,_⟩=>⟨o,e,c⟩
 keep:=λh h' l ⟨o,e,r⟩ k=>⟨o,k o e,r⟩
 iter:=λA s l Q E hl h=>wpAny_pyIter_tuple hl h
 walk:=λA I l hh Ft=>⟨_,(Walks.tuple hh I l Ft its).toS,λs hl e=>⟨⟨_,e,rfl,rfl⟩,hl⟩⟩
 itNew:=λh l=>Heap.get?_push_size _ rfl
 s1:=by rw [isSubtype_type]; kernel_rfl
 s2:=by rw [isSubtype_type]; kernel_rfl
 nd:=by decide
theorem qz {α:Type}{l:List α}{i:Nat}(h:i < l.length):(l[i] :: l.eraseIdx i).Perm l:=by
 rw [List.eraseIdx_eq_take_drop_succ];refine (List.perm_middle).symm.trans ?_;rw [<-List.drop_eq_getElem_cons h,List.take_append_drop]
theorem zR {α:Type}(f:Nat->Nat):∀ (n k:Nat)(l:List α)(out:Array α),n=l.length->(pickOrder.go f n k l out).toList.Perm (out.toList++l):=by
 intro n
 induction n with
 | zero =>
   intro k l out h
   cases l with
   | nil=>unfold pickOrder.go; rw [List.append_nil]
   | cons x l=>cases h
 | succ n ih =>
   intro k l out h;unfold pickOrder.go;have hl:f k % l.length < l.length:=Nat.mod_lt _ (by omega);rw [List.getElem?_eq_getElem hl];dsimp only;refine (ih (k + 1) _ _ (by rw [List.length_eraseIdx_of_lt hl]; omega)).trans ?_;rw [Array.toList_push,List.append_assoc];exact List.Perm.append_left _ (qz hl)
theorem uM {α:Type}(f:Nat->Nat)(xs:Array α):(pickOrder f xs).toList.Perm xs.toList:=by
 have:=zR f xs.size 0 xs.toList #[] (by rw [Array.length_toList]);exact this
noncomputable def vD (w:World)(a:Addr)(ep:Nat)(es:Array Ent):Array Ent:=if w.params.followText "set-order" then pickOrder (w.params.setOrder a ep) es else es
theorem jZ (w:World)(a:Addr)(ep:Nat)(es:Array Ent):(vD w a ep es).toList.Perm es.toList:=by
 unfold vD
 split
 ·exact uM _ _
 ·exact List.Perm.refl _
noncomputable def gr (w:World)(t:T)(i:Nat):Nat:=if w.params.followText "set-order" then 0 else if i=0 then 0 else t.place.getD (i - 1) 0 + 1
noncomputable abbrev vE (w:World)(t:T)(a:Addr)(n ep i:Nat):Obj:={ cls:=.type "set_iterator",data:=.fields #[rawInt (gr w t i),rawInt i,.ref a,rawInt n,rawInt ep] }
theorem fT:Slot "set_iterator" "__next__" "set_iterator.__next__" :=
 .of (owner:="set_iterator") (n:="__next__") (by rw [typeLookup_type,builtinLookup_eq_fast]; kernel_rfl) (by decide +kernel) (by decide +kernel) (by decide +kernel) (by first | exact .inl (by decide +kernel) | exact .inr (by decide +kernel)) (by rw [isSubtype_type]; kernel_rfl)
theorem sy:entryFor table "set_iterator.__next__"=some Builtin.«set_iterator.__next__»:=entryFor_of_tree (by kernel_rfl)
theorem rS (a:Value):argsOk "set_iterator.__next__" ⟨[a],[]⟩:=by unfold argsOk; kernel_rfl
theorem sv:Slot "set_iterator" "__iter__" "set_iterator.__iter__" :=
 .of (owner:="set_iterator") (n:="__iter__") (by rw [typeLookup_type,builtinLookup_eq_fast]; kernel_rfl) (by decide +kernel) (by decide +kernel) (by decide +kernel) (by first | exact .inl (by decide +kernel) | exact .inr (by decide +kernel)) (by rw [isSubtype_type]; kernel_rfl)
theorem yX:entryFor table "set_iterator.__iter__"=some Builtin.«dict_keyiterator.__iter__» :=
 entryFor_alias (id':="dict_keyiterator.__iter__") (by kernel_rfl) rfl (by decide +kernel) (by kernel_rfl)
theorem y7 (a:Value):argsOk "set_iterator.__iter__" ⟨[a],[]⟩:=by unfold argsOk; kernel_rfl
theorem pR:entryFor table "set.__iter__"=some Builtin.«frozenset.__iter__» :=
 entryFor_alias (id':="frozenset.__iter__") (by kernel_rfl) rfl (by decide +kernel) (by kernel_rfl)
section
variable {prog:Program}{w:World}{A:Around}{E:Value->Shared->Prop}{s:Shared}
theorem kr {a:Addr}{es:Array Ent}{ep n:Nat}{t:T}{led:Bool}{Q:(Array Ent × Nat × T)->Shared->Prop}(ho:s.heap.get? a=some (i9 es ep t))(O:Ok led n t)(hz:es.size=n)(h:Q (es,ep,t) s):
 wpAny (model prog w) A (setState a) Q E s:=wpAny_setState_of ho rfl (by rw [hz]; exact O.fits) h
theorem qP {Q:Bool->Shared->Prop}(h:Q (w.params.followText "set-order") s):wpAny (model prog w) A setsByText Q E s:=by
 unfold setsByText;exact wpAny_bind (wpAny_askSetting (wpAny_pure h))
theorem rL {a:Addr}{es:Array Ent}{ep n i:Nat}{t:T}{Q:Option (Value × Nat)->Shared->Prop}(ho:s.heap.get? a=some (i9 es ep t))(O:Ok (own w) n t)(hz:es.size=n)(hi:i<=n)
 (h:Q (((vD w a ep es)[i]?).map λe=>(e.2,gr w t (i + 1))) s):wpAny (model prog w) A (setNext a (gr w t i) i ep) Q E s:=by
 unfold setNext;refine wpAny_bind (kr ho O hz ?_);dsimp only;refine wpAny_bind (qP ?_)
 by_cases ht:w.params.followText "set-order"=true
 ·rw [if_pos ht,if_neg (by simp)];unfold setWalk;refine wpAny_bind (wpAny_bind (kr ho O hz ?_));dsimp only;refine wpAny_bind (qP ?_);rw [if_pos ht];refine wpAny_bind (wpAny_askSetting (wpAny_pure (wpAny_pure ?_)));simp only [vD,gr,ht,if_true] at h |-;exact h
 ·rw [if_neg ht]
  have hd:(!t.plain&&decide (es.size > 1))=false:=by rw [O.plain]; rfl
  show wpAny _ _ (if (!t.plain&&decide (es.size > 1))=true then _ else _) _ _ _;rw [hd,if_neg (by decide)]
  have TF:t.led=true:=by rw [O.led]; simp [own,ht]
  refine wpAny_bind ?_;show wpAny _ _ (if (!t.led&&!es.isEmpty)=true then _ else _) _ _ _;rw [TF,if_neg (by simp)];refine wpAny_pure ?_
  have eb:SetTable.below t.place (gr w t i)=i:=by
   unfold gr;rw [if_neg ht]
   by_cases h0:i=0
   ·rw [if_pos h0,h0]; exact qJ O.up
   ·rw [if_neg h0,rg O.up (by rw [O.size]; omega)]; omega
  refine wpAny_pure ?_;rw [eb]
  have eo:vD w a ep es=es:=by unfold vD; rw [if_neg ht]
  rw [eo] at h
  rcases Nat.lt_or_ge i n with g | g
  ·have e1:es[i]?=some (es[i]'(by omega)):=by simp [show i < es.size from by omega]
   have e2:t.place[i]?=some (t.place.getD i 0):=qV (by rw [O.size]; exact g);rw [e1] at h;rw [e1,e2]
   have e3:gr w t (i + 1)=t.place.getD i 0 + 1:=by unfold gr; rw [if_neg ht,if_neg (by omega)]; rfl
   rw [e3] at h;exact h
  ·have e1:es[i]?=none:=Array.getElem?_eq_none (by omega);rw [e1] at h |-;exact h
theorem yN {a I:Addr}{es:Array Ent}{ep n i:Nat}{t:T}{x:Ent}{Q:Option Value->Shared->Prop}(ho:s.heap.get? a=some (i9 es ep t))(hI:s.heap.get? I=some (vE w t a n ep i))(O:Ok (own w) n t)(hz:es.size=n)
 (hi:i < n)(hx:(vD w a ep es)[i]?=some x)(hQ:∀ h',h'.get? I=some (vE w t a n ep (i + 1))->Heap.SameBut I s.heap h'->Q (some x.2) { s with heap:=h' }):
 wpAny (model prog w) A (pyNext (.ref I)) Q E s:=by
 have tI:s.TypeIs (.ref I) "set_iterator":=⟨_,hI,rfl⟩;unfold pyNext;refine wpAny_bind (wpAny_attempt (wpAny_callSpecial?_slot (name:=Str.ofString "__next__") tI fT (wpAny_call_entry fT tI sy ?_ (rS _))));unfold Builtin.«set_iterator.__next__»;refine wpAny_bind (m:=slotArgs "__next__" 0 _) (wpAny_pure ?_);refine wpAny_bind (wpAny_fieldsOf hI rfl ?_);dsimp only [rawInt];refine wpAny_bind (wpAny_setEntries_of ho rfl (by rw [hz]; exact O.fits) ?_);rw [if_neg (by rw [hz]; simp)];simp only [Int.toNat_natCast];refine wpAny_bind (rL ho O hz (Nat.le_of_lt hi) ?_);rw [hx];dsimp only [Option.map];refine wpAny_bind (wpAny_setField_rec hI (by simp) λh1 o1 b1=>?_);refine wpAny_bind (wpAny_setField_rec (s:={ s with heap:=h1 }) o1 (by simp) λh2 o2 b2=>?_);refine wpAny_pure ⟨_,rfl,wpAny_pure (hQ h2 ?_ (b1.trans b2))⟩;rw [o2];rfl
theorem Bp {a I:Addr}{es:Array Ent}{ep n:Nat}{t:T}{Q:Option Value->Shared->Prop}(hh:A.handled=none)(ho:s.heap.get? a=some (i9 es ep t))(hI:s.heap.get? I=some (vE w t a n ep n))(O:Ok (own w) n t)(hz:es.size=n)
 (hQ:∀ h',Heap.ExtBut I s.heap h'->Q none { s with heap:=h' }):wpAny (model prog w) A (pyNext (.ref I)) Q E s:=by
 have tI:s.TypeIs (.ref I) "set_iterator":=⟨_,hI,rfl⟩;have hx:(vD w a ep es)[n]?=none:=Array.getElem?_eq_none (by rw [<-Array.length_toList,(jZ w a ep es).length_eq,Array.length_toList,hz]; exact Nat.le_refl _);unfold pyNext;refine wpAny_bind (wpAny_attempt (wpAny_callSpecial?_slot (name:=Str.ofString "__next__") tI fT (wpAny_call_entry fT tI sy ?_ (rS _))));unfold Builtin.«set_iterator.__next__»;refine wpAny_bind (m:=slotArgs "__next__" 0 _) (wpAny_pure ?_);refine wpAny_bind (wpAny_fieldsOf hI rfl ?_);dsimp only [rawInt];refine wpAny_bind (wpAny_setEntries_of ho rfl (by rw [hz]; exact O.fits) ?_);rw [if_neg (by rw [hz]; simp)];simp only [Int.toNat_natCast];refine wpAny_bind (rL ho O hz (Nat.le_refl _) ?_);rw [hx];dsimp only [Option.map];refine wpAny_bind (wpAny_setField hI rfl (by simp) ?_);refine wpAny_bind (m:=newExc (.type "StopIteration") []) ?_;unfold newExc newTuple;refine wpAny_bind (wpAny_newObj_type ?_ (by size_fits));refine wpAny_bind (m:=firstArgMember _ _) (wpAny_of_eq (a:=Value.none) rfl ?_);refine wpAny_newObj_type ?_ (by size_fits);unfold raiseNew;refine wpAny_bind (wpAny_handled ?_);rw [show A.in1.handled=none from hh];refine wpAny_bind (wpAny_pure (wpAny_throw ?_));refine wpAny_bind (wpAny_isInstance (b:=true) (T:="StopIteration") ⟨_,Heap.get?_push_size _ rfl,rfl⟩ isSubtype_stop ?_);refine wpAny_pure (hQ _ ?_);exact ((Heap.SameBut.update ..).extBut.push _).push _
theorem An {a I:Addr}{es:Array Ent}{ep n:Nat}{t:T}(hh:A.handled=none)(Ft:a≠I)(O:Ok (own w) n t)(hz:es.size=n):
 WalksS prog w A I [I,a] [I] GE n (λi v=>((vD w a ep es)[i]?).map Prod.snd=some v) (λi s=>s.heap.get? a=some (i9 es ep t)/\s.heap.get? I=some (vE w t a n ep i)) where
 sub:=λb hb=>by simp at hb; simp [hb]
 grefl:=λ_=>rfl
 gtrans:=λ_ _ _ h1 h2=>h2.trans h1
 frame:=λi s h' tk g _ k=>⟨k a (by simp) _ g.1,k I (by simp) _ g.2⟩
 item:=λi s Q E hi g hQ=>by
  have hl:i < (vD w a ep es).size:=by rw [<-Array.length_toList,(jZ w a ep es).length_eq,Array.length_toList,hz]; exact hi
  have hx:(vD w a ep es)[i]?=some ((vD w a ep es)[i]):=by simp [hl]
  refine yN g.1 g.2 O hz hi hx λh' o b=>hQ _ _ (by rw [hx]; rfl) ⟨b.extBut a _ Ft g.1,o⟩ ⟨λc o hc e=>b.extBut c o (λh=>hc (by simp [h])) e,rfl,rfl,rfl,Nat.le_refl _⟩
 done:=λs Q E g hQ=>Bp hh g.1 g.2 O hz λh' k=>hQ _ ⟨λc o hc e=>k c o (λh=>hc (by simp [h])) e,rfl,rfl,rfl,Nat.le_refl _⟩
 self:=λi s Q E g hQ=>by
  have tI:s.TypeIs (.ref I) "set_iterator":=⟨_,g.2,rfl⟩;refine wpAny_pyIter_slot tI sv (wpAny_call_entry sv tI yX ?_ (y7 _));exact wpAny_pure ⟨_,rfl,"set_iterator",_,tI,fT.lookup,hQ⟩
theorem B6 {a:Addr}{es:Array Ent}{ep n:Nat}{t:T}{Q:Value->Shared->Prop}(ho:s.heap.get? a=some (i9 es ep t))(O:Ok (own w) n t)(hz:es.size=n)
 (h:Q (.ref s.heap.objs.size) { s with heap:=s.heap.push (vE w t a n ep 0) }):wpAny (model prog w) A (pyIter (.ref a)) Q E s:=by
 have ta:s.TypeIs (.ref a) "set":=⟨_,ho,rfl⟩
 have hf:t.fits es.size=true:=by rw [hz]; exact O.fits
 refine wpAny_pyIter_slot ta F.slot_set_iter (wpAny_call_entry F.slot_set_iter ta pR ?_ (F.args_set_iter_1 _));unfold Builtin.«frozenset.__iter__» Builtin.Frozenset.slot0;refine wpAny_bind (m:=slotArgs "__iter__" 0 _ >>= _) (wpAny_bind (wpAny_pure (wpAny_pure ?_)));unfold Builtin.Frozenset.sizeOf;refine wpAny_bind (wpAny_bind (wpAny_setEntries_of ho rfl hf (wpAny_pure ?_)))
 have ZX:gr w t 0=0:=by unfold gr; split <;> rfl
 unfold setDrawn;refine wpAny_bind (wpAny_bind (kr ho O hz ?_));dsimp only;refine wpAny_bind (qP (wpAny_pure ?_))
 have hd:(!w.params.followText "set-order"&&(!t.plain&&decide (es.size > 1)))=false:=by rw [O.plain]; simp
 refine (show wpAny _ _ (if (!w.params.followText "set-order"&&(!t.plain&&decide (es.size > 1)))=true then _ else _) _ _ _ from ?_);rw [hd,if_neg (by decide)];refine wpAny_bind (wpAny_pure (wpAny_bind (wpAny_setEpoch_of ho rfl hf ?_)));refine wpAny_bind (wpAny_newObj_type (wpAny_pure ⟨_,rfl,"set_iterator",_,⟨_,Heap.get?_push_size _ rfl,rfl⟩,fT.lookup,?_⟩));rw [hz];unfold vE at h;rw [ZX] at h;exact h
end
noncomputable abbrev ia (xs:Array Value)(c:Nat):Obj:={ cls:=.type "list",dict:=none,data:=.seq xs c,slots:=#[] }
section
variable {prog:Program}{w:World}{A:Around}{E:Value->Shared->Prop}{s:Shared}
theorem vR:typeLookup (.type "set") "__len__"=pure (some (.builtin "set.__len__")):=F.slot_set_len.lookup
theorem oG {α:Type}{c:Bool}{x y:Sem α}{Q:α->Shared->Prop}(h:c=true)(g:wpAny (model prog w) A x Q E s):wpAny (model prog w) A (if c=true then x else y) Q E s:=by
 rw [if_pos h]; exact g
theorem A0 {a:Addr}{Q:Bool->Shared->Prop}(ta:s.TypeIs (.ref a) "set")(h:Q false s):wpAny (model prog w) A (Builtin.List.listLengthHint (.ref a)) Q E s:=by
 unfold Builtin.List.listLengthHint;refine wpAny_bind (wpAny_specialOf ta vR ?_);dsimp only;rw [show splitId "set.__len__"=some ("set","__len__") from by decide +kernel];dsimp only;refine wpAny_bind (wpAny_isInstance ta sub_set_self ?_);rw [if_neg (by decide)];exact oG (by decide +kernel) (wpAny_bind (wpAny_typeOf ta (wpAny_pure h)))
theorem zt {P:Array Ent}{es:Array Ent}{ns:List Int}(c:Cont es ns)(p:P.toList.Perm es.toList){acc:Array Value}{n:Nat}(hz:es.size=n)(h:ItemsOf (λi v=>(P[i]?).map Prod.snd=some v) acc n):
 ∃ ms,IntsAre acc.toList ms/\ms.Perm ns:=by
 have hP:P.toList.length=n:=by rw [p.length_eq,Array.length_toList,hz]
 have e:acc.toList=P.toList.map Prod.snd:=by
  refine List.ext_getElem? λi=>?_;rw [List.getElem?_map,Array.getElem?_toList,Array.getElem?_toList]
  rcases Nat.lt_or_ge i n with g | g
  ·have ha:acc[i]?=some (acc[i]'(by rw [h.1]; exact g)):=by simp [h.1,g]
   rw [ha,h.2 i _ ha]
  ·rw [Array.getElem?_eq_none (by rw [h.1]; exact g),Array.getElem?_eq_none (by rw [<-Array.length_toList,hP]; exact g)]; rfl
 have c':Cont P ns:=c.perm' p;refine ⟨_,oK (vs:=acc.toList) λv hv=>?_,?_⟩
 ·rw [e] at hv;obtain ⟨x,hx,rfl⟩:=List.mem_map.mp hv;obtain ⟨k,t,rfl⟩:=c'.isI x hx;exact ⟨k,t,rfl⟩
 ·rw [e,List.map_map];exact c'.perm
set_option maxHeartbeats 3000000 in
theorem t9 {a:Addr}{ns:List Int}{Q:List Value->Shared->Prop}(hh:A.handled=none)(S:i5 (own w) s.heap a ns)(hn:ns.length < 4000)
 (hQ:∀ (h':Heap)(tk:Nat)(vs:List Value)(ms:List Int),IntsAre vs ms->ms.Perm ns->(∀ b o,s.heap.get? b=some o->h'.get? b=some o)->s.toks<=tk->Q vs { s with heap:=h',toks:=tk }):
 wpAny (model prog w) A (collect (.ref a)) Q E s:=by
 obtain ⟨es,ep,t,ho,c,hz,O⟩:=S;have Fd:a < s.heap.objs.size:=Heap.lt_size ho;unfold collect;refine wpAny_bind (wpAny_runValue (codeAny_builtin PySem.F.entry_proto_collect ?_));rw [Around.under_plainId PySem.F.plain_proto_collect _];refine wpAny_bind (m:=newList []) (wpAny_newObj_type ?_);refine wpAny_pure ⟨plainId_quiet PySem.F.plain_list_iadd _,codeAny_builtin PySem.F.entry_list_iadd ?_⟩;rw [Around.under_plainId PySem.F.plain_list_iadd _];refine (show wpAny _ A.in1 (Builtin.List.listExtendWith (.ref s.heap.objs.size) (.ref a) (.ref s.heap.objs.size)) _ _ _ from ?_);unfold Builtin.List.listExtendWith;have IY:(s.heap.push (ia #[] 0)).get? a=some (i9 es ep t):=Heap.get?_push_of_some _ ho;refine wpAny_bind (wpAny_typeOf (T:="set") ⟨_,IY,rfl⟩ ?_)
 rw [if_neg (by
  have:Builtin.List.listSameRef (.ref s.heap.objs.size) (.ref a)=false:=by
   simp only [Builtin.List.listSameRef,beq_eq_false_iff_ne]; exact Nat.ne_of_gt Fd
  rw [this]; decide)]
 refine wpAny_bind (B6 (s:={ s with heap:=s.heap.push (ia #[] 0) }) IY O hz ?_);have Hv:((s.heap.push (ia #[] 0)).push (vE w t a ns.length ep 0)).get? a=some (i9 es ep t):=Heap.get?_push_of_some _ IY;refine wpAny_bind (wpAny_holding (A0 ⟨_,Hv,rfl⟩ ?_));have ZY:((s.heap.push (ia #[] 0)).push (vE w t a ns.length ep 0)).get? (s.heap.push (ia #[] 0)).objs.size=some (vE w t a ns.length ep 0):=Heap.get?_push_size _ rfl;have Xa:((s.heap.push (ia #[] 0)).push (vE w t a ns.length ep 0)).get? s.heap.objs.size=some (ia #[] 0):=Heap.get?_push_of_some _ (Heap.get?_push_size _ rfl);have TH:(s.heap.push (ia #[] 0)).objs.size=s.heap.objs.size + 1:=Heap.size_push _ _;refine oG (by decide +kernel) (wpAny_bind (wpAny_rule (wpAny_bind ?_)));refine (show wpAny _ A.in1 (updateSeq s.heap.objs.size (·.push .none) >>= λ_=>updateSeq s.heap.objs.size (·.pop)) _ _ _ from wpAny_bind (wpAny_updateSeq Xa rfl ?_));have RA:=Heap.get?_update_self (Obj.mapSeq (·.push Value.none)) Xa rfl;refine wpAny_updateSeq RA rfl ?_;have MD:=Heap.get?_update_self (Obj.mapSeq (·.pop)) RA rfl
 have up:∀ b o,b≠s.heap.objs.size->((s.heap.push (ia #[] 0)).push (vE w t a ns.length ep 0)).get? b=some o →
  ((((s.heap.push (ia #[] 0)).push (vE w t a ns.length ep 0)).update s.heap.objs.size (Obj.mapSeq (·.push Value.none))).update s.heap.objs.size (Obj.mapSeq (·.pop))).get? b=some o :=
  λb o hb e=>(Heap.get?_update_other _ _ (Ne.symm hb)).trans ((Heap.get?_update_other _ _ (Ne.symm hb)).trans e)
 have nI:a≠(s.heap.push (ia #[] 0)).objs.size:=by rw [TH]; exact Nat.ne_of_lt (Nat.lt_succ_of_lt Fd)
 have nL:(s.heap.push (ia #[] 0)).objs.size≠s.heap.objs.size:=by rw [TH]; exact Nat.succ_ne_self _
 have W:=An (prog:=prog) (A:=A.in1) (ep:=ep) (es:=es) (by simp [hh]) nI O hz
 refine wpAny_pure ⟨plainId_quiet PySem.F.plain_extend_loop _,codeAny_extend_loopS W (by rw [sizeLine_eq]; omega) s.heap.objs.size (by
  simp only [List.mem_cons,List.not_mem_nil,or_false,not_or]; exact ⟨nL.symm,Nat.ne_of_gt Fd⟩) _ ns.length 0 _ _ _ rfl (Nat.zero_le _) ⟨up _ _ (Nat.ne_of_lt Fd) Hv,up _ _ nL ZY⟩ MD (ItemsOf.nil _) λz acc c' m oz it=>?_⟩
 refine wpAny_bind (wpAny_load oz (wpAny_pure ?_));obtain ⟨ms,i1,i2⟩:=zt c (jZ w a ep es) hz it
 have ez:z={ s with heap:=z.heap,toks:=z.toks }:=by
  have e1:z.gens=s.gens:=m.gens;have e2:z.drawn=s.drawn:=m.drawn;have e3:z.os=s.os:=m.os
  cases z; cases e1; cases e2; cases e3; rfl
 rw [ez];refine hQ z.heap z.toks acc.toList ms i1 i2 (λb o e=>?_) m.toks;have hb:=Heap.lt_size e;refine m.heap b o ?_ (up b o (Nat.ne_of_lt hb) (Heap.get?_push_of_some _ (Heap.get?_push_of_some _ e)));simp only [List.mem_cons,List.not_mem_nil,or_false,not_or];refine ⟨Nat.ne_of_lt hb,?_⟩;rw [TH]; exact Nat.ne_of_lt (Nat.lt_succ_of_lt hb)
theorem um {h:Heap}{D:Addr}{vs:List Value}{c:Nat}(out:Array Value)(e:h.get? D=some (seqObj "list" vs.toArray c)):∃ c',(sortedHeap h D vs out).get? D=some (ia out c'):=by
 have hD:=Heap.lt_size e;have e1:=get?_update_seq e (λ_=>#[]);unfold sortedHeap;have e2:(((h.update D (Obj.mapSeq λ_=>#[])).push (seqObj "tuple" vs.toArray 0)).push (seqObj "list" #[] 0)).get? D=_:=Heap.get?_push_of_some _ (Heap.get?_push_of_some _ e1);exact ⟨_,get?_update_seq e2 λ_=>out⟩
theorem rn {h:Heap}{D b:Addr}{vs:List Value}{out:Array Value}{o:Obj}(hb:b≠D)(e:h.get? b=some o):(sortedHeap h D vs out).get? b=some o:=by
 unfold sortedHeap;refine (Heap.get?_update_other _ _ (Ne.symm hb)).trans (Heap.get?_push_of_some _ (Heap.get?_push_of_some _ ((Heap.get?_update_other _ _ (Ne.symm hb)).trans e)))
theorem xu {a:Addr}{ns:List Int}{Q:Value->Shared->Prop}(hh:A.handled=none)(S:i5 (own w) s.heap a ns)(h64:ns.length < 64)
 (h:∀ (h':Heap)(tk:Nat)(D:Addr)(out:Array Value)(ms:List Int)(c:Nat),IntsAre out.toList ms->ms.Perm ns->ms.Pairwise (· <= ·)->h'.get? D=some (ia out c)->s.heap.get? D=none →
  (∀ b o,s.heap.get? b=some o->h'.get? b=some o)->s.toks<=tk->Q (.ref D) { s with heap:=h',toks:=tk }):wpAny (model prog w) A (call (.builtin "sorted") [.ref a]) Q E s:=by
 refine Calls.call_function_entry kind_sorted plain_sorted entry_sorted (args_sorted1 _) ?_;unfold Builtin.«sorted»;refine wpAny_bind (m:=checkCount "sorted" 1 1 _) (wpAny_pure ?_);refine wpAny_bind (t9 (by simpa using hh) S (by omega) λh1 tk vs ms i1 i2 k1 t1=>?_)
 have hv:vs.length < 64:=by
  have:=i1.length;rw [this,i2.length_eq]; exact h64
 refine wpAny_bind (m:=newList vs) (wpAny_newList ?_ (hsz:=by rw [sizeLine_eq]; omega));have oD:(h1.push (seqObj "list" vs.toArray 0)).get? h1.objs.size=some (seqObj "list" vs.toArray 0):=Heap.get?_push_size _ rfl
 have fr:s.heap.get? h1.objs.size=none:=by
  cases e:s.heap.get? h1.objs.size with
  | none=>rfl
  | some o=>exact absurd (Heap.lt_size (k1 _ _ e)) (Nat.lt_irrefl _)
 refine wpAny_bind (wpAny_holding (wpAny_call_entry slot_list_sort ⟨_,oD,rfl⟩ entry_list_sort (list_sort_tree oD i1 hv λout JJ a1 a2 a3=>⟨_,rfl,?_⟩) (args_list_sort _)));obtain ⟨c,oc⟩:=um out oD;refine wpAny_pure ⟨_,rfl,h _ tk _ out JJ c a1 (a2.trans i2) a3 oc fr (λb o e=>?_) t1⟩;exact rn (λq=>by rw [q,fr] at e; cases e) (Heap.get?_push_of_some _ (k1 b o e))
end
end St
namespace L2
open PySem PySem.Spec PyProof.Rows PySem.W
noncomputable def ud (ns:List Int):List Int:=firstMet (λi=>ns.getD i 0) ns.length
theorem me (ns:List Int):ud ns=ns.foldl step_dedup []:=by
 have e:(List.range ns.length).map (λi=>ns.getD i 0)=ns:=by
  apply List.ext_getElem
  ·simp
  ·intro i h1 h2;simp [h2]
 unfold ud firstMet;rw [e]
theorem fV:∀ (ns acc:List Int),acc.Nodup->(ns.foldl step_dedup acc).Nodup/\∀ x,x∈ns.foldl step_dedup acc ↔ x∈acc\/x∈ns
 | [],acc,h=>⟨h,λx=>by simp⟩
 | n :: ns,acc,h=>by
   rw [List.foldl_cons]
   by_cases q:n∈acc
   ·rw [St.pU q];obtain ⟨a,b⟩:=fV ns acc h;refine ⟨a,λx=>(b x).trans ⟨λz=>z.imp id (List.mem_cons_of_mem _),λz=>?_⟩⟩
    rcases z with z | z
    ·exact .inl z
    ·rcases List.mem_cons.mp z with rfl | z
     ·exact .inl q
     ·exact .inr z
   ·rw [St.iK q]
    have nd:(acc++[n]).Nodup:=by
     refine List.nodup_append.mpr ⟨h,by simp,λa ha b hb z=>?_⟩;rw [List.mem_singleton] at hb;exact q (hb ▸ z ▸ ha)
    obtain ⟨a,b⟩:=fV ns (acc++[n]) nd;refine ⟨a,λx=>(b x).trans ?_⟩;rw [List.mem_append,List.mem_singleton,List.mem_cons,or_assoc]
theorem qF (ns:List Int):(ud ns).Nodup:=by rw [me]; exact (fV ns [] List.nodup_nil).1
theorem xt (ns:List Int)(x:Int):x∈ud ns ↔ x∈ns:=by
 rw [me,(fV ns [] List.nodup_nil).2]; simp
theorem rX (ns:List Int):(ud ns).length<=ns.length:=firstMet_length_le _ _
theorem Di {ms:List Int}(h:ms.Pairwise (· <= ·))(d:ms.Nodup):ms.Pairwise (· < ·):=
 (List.Pairwise.and h d).imp λ⟨a,b⟩=>Int.lt_iff_le_and_ne.mpr ⟨a,b⟩
theorem nA:∀ {xs ys:List Int},xs.Pairwise (· < ·)->ys.Pairwise (· < ·)->(∀ x,x∈xs ↔ x∈ys)->xs=ys
 | [],[],_,_,_=>rfl
 | [],y :: ys,_,_,h=>absurd ((h y).mpr List.mem_cons_self) (by simp)
 | x :: xs,[],_,_,h=>absurd ((h x).mp List.mem_cons_self) (by simp)
 | x :: xs,y :: ys,a,b,h=>by
   obtain ⟨a1,a2⟩:=List.pairwise_cons.mp a;obtain ⟨b1,b2⟩:=List.pairwise_cons.mp b
   have e:x=y:=by
    rcases List.mem_cons.mp ((h x).mp List.mem_cons_self) with e | e
    ·exact e
    ·rcases List.mem_cons.mp ((h y).mpr List.mem_cons_self) with e2 | e2
     ·exact e2.symm
     ·have:=b1 _ e; have:=a1 _ e2; omega
   subst e;rw [nA a2 b2 λz=>⟨λhz=>?_,λhz=>?_⟩]
   ·rcases List.mem_cons.mp ((h z).mp (List.mem_cons_of_mem _ hz)) with e | e
    ·have:=a1 _ hz; omega
    ·exact e
   ·rcases List.mem_cons.mp ((h z).mpr (List.mem_cons_of_mem _ hz)) with e | e
    ·have:=b1 _ hz; omega
    ·exact e
noncomputable def wZ (K:Frag)(ta:TE):TE:=λσ H Q=>dZ ta tNil σ H λvs H1=>∃ (l:Addr)(ns:List Int),vs=[.ref l]/\(bu K H1 l (ns.map V.int)\/a9 K H1 l (ns.map V.int))/\ns.length < 64 /\
 ∀ (D:Addr)(ms:List Int),H1 D=none->ms.Pairwise (· < ·)->(∀ x,x∈ms ↔ x∈ns)->Q (.ref D) (upd H1 D (.lst (ms.map V.int)))
section
variable {X:Cx}
theorem jz {e:Expr}{ta:TE}{p p2 pos LL:Pos}{K:Frag}(hK:X.K=K)(ha:PE X e ta)(hc:X.calm=true)(ZZ:Gl X "sorted")(Z0:X.mg "sorted"=none)(Z1:Gl X "set")(Z2:X.mg "set"=none)(hs:gG e=false:=by rfl):
 PE X (.Call (.Name "sorted" p) [.Call (.Name "set" p2) [e] [] LL] [] pos) (wZ K ta):=by
 subst hK;intro pins s σ H Q I h;refine wpAny_Call_Name_kw (fh I ZZ Z0 (by rfl) ?_ (by decide) (by decide));refine callWith_builtin1 ?_ (bX rfl) rfl;rw [bX rfl];show wpAny _ _ (spliced ((false,eval (.Call (.Name "set" p2) [e] [] LL) X.env):: backTo pos (starEach [] X.env))) _ _ s;refine Calls.spliced_cons ?_;refine wpAny_Call_Name_kw (fh I Z1 Z2 (by rfl) ?_ (by decide) (by decide));refine callWith_type1 (bR (ai ha af hs LL pins s σ H _ I h) λus s1 ⟨vs,H1,I1,r1,l,ns,hv,hq,hz,q⟩=>?_) (bX hs) rfl;subst hv;obtain ⟨u,rfl,ru⟩:=gf r1
 cases (show u=Value.ref l from ru)
 have hd:=I.ok.hd hc
 have fin:∀ (h':Heap)(tk:Nat),St.i5 (St.own X.w) h' s1.heap.objs.size (ud ns)->(∀ b o,b < s1.heap.objs.size->s1.heap.get? b=some o->h'.get? b=some o) →
  wpAny (model X.prog X.w) X.A (call (.builtin "sorted") [.ref s1.heap.objs.size]) (EP X pins σ Q) X.xe { s1 with heap:=h',toks:=tk }:=by
  intro h' tk S old;have I2:Inv X pins σ H1 { s1 with heap:=h',toks:=tk }:=I1.kept (t':=tk) λb o e=>old b o (Heap.lt_size e) e;refine St.xu (s:={ s1 with heap:=h',toks:=tk }) hd S (by have:=rX ns; omega) λh2 Z3 D out ms c i1 i2 i3 oD fr k2 _=>?_
  have hlen:(ms.map V.int).length<=sizeLine:=by
   rw [List.length_map,i2.length_eq,sizeLine_eq];have:=rX ns; omega
  exact ⟨.ref D,_,I2.newObj (t':=Z3) (o:=.lst (ms.map V.int)) k2 fr ⟨hlen,out.toList,c,wG i1,by simpa using oD⟩,rfl,
   q D ms (I2.hnone fr) (Di i3 (i2.symm.nodup (qF ns))) λx=>(i2.mem_iff).trans (xt ns x)⟩
 rcases hq with hq | hq
 ·obtain ⟨its,rv,pl,Z4⟩:=I1.list hq;have e1:=rv.length;rw [List.length_map] at e1;refine St.pE (St.wO X.prog X.w its.toArray) hd pl.isList (by simpa using jN rv) (by rw [List.size_toArray]; omega) λh' tk S old _=>?_
  have es:its.toArray.size=ns.length:=by rw [List.size_toArray]; exact e1.symm
  rw [es] at S;exact Calls.spliced_nil (fin h' tk S old)
 ·obtain ⟨its,rv,pl,Z4⟩:=I1.tuple hq;have e1:=rv.length;rw [List.length_map] at e1;refine St.pE (St.y6 X.prog X.w its.toArray) hd pl (by simpa using jN rv) (by rw [List.size_toArray]; omega) λh' tk S old _=>?_
  have es:its.toArray.size=ns.length:=by rw [List.size_toArray]; exact e1.symm
  rw [es] at S;exact Calls.spliced_nil (fin h' tk S old)
end
end L2
namespace K06
open PySem L2 PySem.W Nm Srt
noncomputable def nt (x:Int):List Int->List Int
 | []=>[x]
 | y :: l=>if x < y then x :: y :: l else if x=y then y :: l else y :: nt x l
noncomputable def gM:List Int->List Int
 | []=>[]
 | x :: l=>nt x (gM l)
theorem kj {x z:Int}:∀ {l:List Int},z∈nt x l ↔ z=x\/z∈l
 | []=>by simp [nt]
 | y :: l=>by
   unfold nt
   by_cases h:x < y
   ·rw [if_pos h]; simp
   ·rw [if_neg h]
    by_cases g:x=y
    ·rw [if_pos g,g]; simp
    ·rw [if_neg g,List.mem_cons,kj (l:=l),List.mem_cons];constructor
     ·rintro (h | h | h)
      ·exact .inr (.inl h)
      ·exact .inl h
      ·exact .inr (.inr h)
     ·rintro (h | h | h)
      ·exact .inr (.inl h)
      ·exact .inl h
      ·exact .inr (.inr h)
theorem t6 {x:Int}:∀ {l:List Int},l.Pairwise (· < ·)->(nt x l).Pairwise (· < ·)
 | [],_=>by simp [nt]
 | y :: l,h=>by
   obtain ⟨h1,h2⟩:=List.pairwise_cons.mp h;unfold nt
   by_cases g:x < y
   ·rw [if_pos g];refine List.pairwise_cons.mpr ⟨λz hz=>?_,h⟩
    rcases List.mem_cons.mp hz with rfl | hz
    ·exact g
    ·have:=h1 z hz; omega
   ·rw [if_neg g]
    by_cases e:x=y
    ·rw [if_pos e]; exact h
    ·rw [if_neg e];refine List.pairwise_cons.mpr ⟨λz hz=>?_,t6 h2⟩
     rcases kj.mp hz with rfl | hz
     ·omega
     ·exact h1 z hz
theorem ko:∀ l:List Int,(gM l).Pairwise (· < ·)
 | []=>List.Pairwise.nil
 | x :: l=>t6 (ko l)
theorem fU {z:Int}:∀ {l:List Int},z∈gM l ↔ z∈l
 | []=>Iff.rfl
 | x :: l=>by
   show z∈nt x (gM l) ↔ _;rw [kj,fU,List.mem_cons]
theorem wR {l m:List Int}(h:∀ z,z∈l ↔ z∈m):gM l=gM m:=nA (ko l) (ko m) λz=>by rw [fU,fU,h]
theorem mz {l m:List Int}(h:m.Pairwise (· < ·))(e:∀ z,z∈m ↔ z∈l):m=gM l:=nA h (ko l) λz=>by rw [fU,e]
noncomputable def cH (p:Int)(a b:Int × Int):Int × Int:=(c6 p (fO a.1 a.2 b.1 b.2) (a.2 * b.2),dq p (fO a.1 a.2 b.1 b.2) (a.2 * b.2))
noncomputable def cG (p:Int)(a b:List Tm):List Tm:=a.flatMap λx=>b.map λy=>(gM (x.1++y.1),cH p x.2 y.2)
noncomputable def fA (p:Int)(c:Int × Int)(a:List Tm):List Tm:=a.map λx=>(x.1,cH p x.2 c)
noncomputable abbrev tg (p:Int)(ts:List Tm):List Tm:=dW (aN p ts)
section
variable {p:Int}{R:Type} [Lean.Grind.CommRing R]{v:Int × Int->R}
theorem om {a b:Int × Int}(hp:0<=p)(ha:Num p a.1 a.2)(hb:Num p b.1 b.2):Num p (cH p a b).1 (cH p a b).2 :=
 Num.set hp (Int.mul_ne_zero (by have:=ha.pos; omega) (by have:=hb.pos; omega))
theorem pM (V:Val p R v){a b:Int × Int}(ha:Num p a.1 a.2)(hb:Num p b.1 b.2):v (cH p a b)=v a * v b:=(V.set ha hb).2 rfl rfl
theorem cw (hp:0<=p){a b:List Tm}(ha:br p a)(hb:br p b):br p (cG p a b):=λe he=>by
 obtain ⟨x,hx,he⟩:=List.mem_flatMap.mp he;obtain ⟨y,hy,rfl⟩:=List.mem_map.mp he;exact om hp (ha x hx) (hb y hy)
theorem pf (hp:0<=p){a:List Tm}{c:Int × Int}(ha:br p a)(hc:Num p c.1 c.2):br p (fA p c a):=λe he=>by
 obtain ⟨x,hx,rfl⟩:=List.mem_map.mp he;exact om hp (ha x hx) hc
theorem fR {a b:List Tm}(ha:br p a)(hb:br p b):br p (a++b):=λe he=>by
 rcases List.mem_append.mp he with h | h
 ·exact ha e h
 ·exact hb e h
theorem Ar (V:Val p R v){x:Tm}(hx:Num p x.2.1 x.2.2)(F:List Int->R):∀ {b:List Tm},br p b->S v (b.map λy=>(gM (x.1++y.1),cH p x.2 y.2)) F=v x.2 * S v b (λj=>F (gM (x.1++j)))
 | [],_=>by show (0:R)=v x.2 * 0; grind
 | y :: b,h=>by
   have ih:=Ar V hx F (b:=b) λe he=>h e (List.mem_cons_of_mem _ he);show v (cH p x.2 y.2) * F (gM (x.1++y.1)) + S v (b.map _) F=v x.2 * (v y.2 * F (gM (x.1++y.1)) + S v b (λj=>F (gM (x.1++j))));rw [ih,pM V hx (h y List.mem_cons_self)];grind
theorem dN (V:Val p R v){a b:List Tm}(ha:br p a)(hb:br p b)(F:List Int->R):S v (cG p a b) F=S v a (λi=>S v b (λj=>F (gM (i++j)))):=by
 induction a with
 | nil=>rfl
 | cons x a ih =>
   have ih:=ih λe he=>ha e (List.mem_cons_of_mem _ he)
   have e:cG p (x :: a) b=(b.map λy=>(gM (x.1++y.1),cH p x.2 y.2))++cG p a b:=by simp [cG]
   rw [e,dn,Ar V (ha x List.mem_cons_self) F hb,ih];rfl
theorem xh (V:Val p R v){a:List Tm}{c:Int × Int}(ha:br p a)(hc:Num p c.1 c.2)(F:List Int->R):S v (fA p c a) F=v c * S v a F:=by
 induction a with
 | nil=>show (0:R)=v c * 0; grind
 | cons x a ih =>
   have ih:=ih λe he=>ha e (List.mem_cons_of_mem _ he);show v (cH p x.2 c) * F x.1 + S v (fA p c a) F=v c * (v x.2 * F x.1 + S v a F);rw [ih,pM V (ha x List.mem_cons_self) hc];grind
theorem eZ {F G:List Int->R}(h:∀ i,F i=G i)(a:List Tm):S v a F=S v a G:=by
 have:F=G:=funext h;rw [this]
end
section
variable {p:Int}{a b c:List Tm}
theorem FP.v {p:Int}(hp:FP p):∃ (R:Type)(i:Lean.Grind.CommRing R)(v:Int × Int->R),@Val p R i v:=Co (by
 rcases hp with h | h
 ·exact .inl h
 ·exact .inr (iD h).1)
theorem FP.tn {p:Int}(hp:FP p){a:List Tm}(ha:br p a):br p (tg p a):=by
 obtain ⟨R,i,v,V⟩:=hp.v;exact B7 V hp.nn ha
theorem yH (hp:FP p)(ha:br p a)(hb:br p b):tg p (tg p a++tg p b)=tg p (a++b):=by
 obtain ⟨R,i,v,V⟩:=hp.v;refine kc V hp.nn (fR (hp.tn ha) (hp.tn hb)) (fR ha hb) λF=>?_;rw [dn,dn,kR V hp.nn ha,kR V hp.nn hb]
theorem uf (hp:FP p)(ha:br p a)(hb:br p b):tg p (a++b)=tg p (b++a):=by
 obtain ⟨R,i,v,V⟩:=hp.v;refine kc V hp.nn (fR ha hb) (fR hb ha) λF=>?_;rw [dn,dn];grind
theorem pL (hp:FP p)(ha:br p a)(hb:br p b):tg p (cG p (tg p a) (tg p b))=tg p (cG p a b):=by
 obtain ⟨R,i,v,V⟩:=hp.v;refine kc V hp.nn (cw hp.nn (hp.tn ha) (hp.tn hb)) (cw hp.nn ha hb) λF=>?_;rw [dN V (hp.tn ha) (hp.tn hb),dN V ha hb,kR V hp.nn ha];exact eZ (λi=>kR V hp.nn hb _) a
theorem rj (hp:FP p)(ha:br p a)(hb:br p b):tg p (cG p a b)=tg p (cG p b a):=by
 obtain ⟨R,i,v,V⟩:=hp.v;refine kc V hp.nn (cw hp.nn ha hb) (cw hp.nn hb ha) λF=>?_;rw [dN V ha hb,dN V hb ha,Bh];refine eZ (λj=>eZ (λi=>?_) a) b;rw [wR (l:=i++j) (m:=j++i) λz=>by simp [or_comm]]
theorem oZ (hp:FP p)(ha:br p a)(hb:br p b)(hc:br p c):tg p (cG p (tg p (cG p a b)) c)=tg p (cG p a (tg p (cG p b c))):=by
 obtain ⟨R,i,v,V⟩:=hp.v;have GX:=cw hp.nn ha hb;have LM:=cw hp.nn hb hc;refine kc V hp.nn (cw hp.nn (hp.tn GX) hc) (cw hp.nn ha (hp.tn LM)) λF=>?_;rw [dN V (hp.tn GX) hc,dN V ha (hp.tn LM),kR V hp.nn GX,dN V ha hb];refine eZ (λi=>?_) a;rw [kR V hp.nn LM,dN V hb hc];refine eZ (λj=>eZ (λk=>?_) c) b;rw [wR (l:=gM (i++j)++k) (m:=i++gM (j++k)) λz=>by simp [fU,or_assoc]]
theorem qx (hp:FP p)(ha:br p a)(hb:br p b)(hc:br p c):tg p (cG p a (tg p (b++c)))=tg p (tg p (cG p a b)++tg p (cG p a c)):=by
 obtain ⟨R,i,v,V⟩:=hp.v;have GX:=cw hp.nn ha hb;have Xb:=cw hp.nn ha hc;have LM:=fR hb hc;refine kc V hp.nn (cw hp.nn ha (hp.tn LM)) (fR (hp.tn GX) (hp.tn Xb)) λF=>?_;rw [dN V ha (hp.tn LM),dn,kR V hp.nn GX,kR V hp.nn Xb,dN V ha hb,dN V ha hc,<-Aw];refine eZ (λi=>?_) a;rw [kR V hp.nn LM,dn]
theorem uP {n:Int × Int}(hp:FP p)(ha:br p a)(hn:Num p n.1 n.2):tg p (fA p n (tg p a))=tg p (fA p n a):=by
 obtain ⟨R,i,v,V⟩:=hp.v;refine kc V hp.nn (pf hp.nn (hp.tn ha) hn) (pf hp.nn ha hn) λF=>?_;rw [xh V (hp.tn ha) hn,xh V ha hn,kR V hp.nn ha]
end
structure Cd (p D M:Int)(a:Int × Int):Prop where
 num:Num p a.1 a.2
 d:p=0->∃ k:Int,a.2 * k=D/\((a.1 * k).natAbs:Int)<=M
theorem Cd.mono {p D M M':Int}{a:Int × Int}(h:Cd p D M a)(m:M<=M'):Cd p D M' a:=⟨h.num,λz=>by
 obtain ⟨k,e,l⟩:=h.d z
 exact ⟨k,e,Int.le_trans l m⟩⟩
theorem Cd.add {p D M N:Int}{a b:Int × Int}(hp:FP p)(ha:Cd p D M a)(hb:Cd p D N b):Cd p D (M + N) (dm p a b):=by
 have na:=ha.num.pos;have nb:=hb.num.pos;have nz:a.2 * b.2≠0:=Int.mul_ne_zero (by omega) (by omega);refine ⟨Num.set hp.nn nz,λz=>?_⟩;subst z;obtain ⟨x,ex,lx⟩:=ha.d rfl;obtain ⟨y,ey,ly⟩:=hb.d rfl;have cr:=iL (t:=a.1 * b.2 + b.1 * a.2) nz;have nm:Num 0 (c6 0 (a.1 * b.2 + b.1 * a.2) (a.2 * b.2)) (dq 0 (a.1 * b.2 + b.1 * a.2) (a.2 * b.2)):=Num.set (Int.le_refl 0) nz;show ∃ k,dq 0 (a.1 * b.2 + b.1 * a.2) (a.2 * b.2) * k=D/\(((c6 0 (a.1 * b.2 + b.1 * a.2) (a.2 * b.2)) * k).natAbs:Int)<=M + N;generalize c6 0 (a.1 * b.2 + b.1 * a.2) (a.2 * b.2)=t at cr nm |-;generalize dq 0 (a.1 * b.2 + b.1 * a.2) (a.2 * b.2)=u at cr nm |-;obtain ⟨a1,a2⟩:=a;obtain ⟨b1,b2⟩:=b;dsimp only at *
 have e1:t * D=(a1 * x + b1 * y) * u:=by
  refine Int.eq_of_mul_eq_mul_right nz ?_
  have h1:(a1 * b2 + b1 * a2) * D=(a1 * x + b1 * y) * (a2 * b2):=by
   have:(a1 * b2 + b1 * a2) * D=a1 * b2 * D + b1 * a2 * D:=by grind
   rw [this]
   have p1:a1 * b2 * D=a1 * x * (a2 * b2):=by rw [<-ex]; grind
   have p2:b1 * a2 * D=b1 * y * (a2 * b2):=by rw [<-ey]; grind
   rw [p1,p2];grind
  have:t * D * (a2 * b2)=t * (a2 * b2) * D:=by grind
  rw [this,cr]
  have:(a1 * b2 + b1 * a2) * u * D=(a1 * b2 + b1 * a2) * D * u:=by grind
  rw [this,h1];grind
 have dv:u ∣ D:=by
  have g:Int.gcd u t=1:=by rw [Int.gcd_comm]; exact nm.red
  have h1:u ∣ t * D:=⟨a1 * x + b1 * y,by rw [e1]; grind⟩;have h2:=Int.natAbs_dvd_natAbs.mpr h1;rw [Int.natAbs_mul] at h2;exact Int.natAbs_dvd_natAbs.mp (Nat.Coprime.dvd_of_dvd_mul_left (show Nat.Coprime u.natAbs t.natAbs from g) h2)
 obtain ⟨k,ek⟩:=dv;refine ⟨k,ek.symm,?_⟩;have up:=nm.pos
 have e2:t * k=a1 * x + b1 * y:=by
  refine Int.eq_of_mul_eq_mul_right (show u≠0 by omega) ?_;rw [<-e1,ek];grind
 rw [e2];have:=Int.natAbs_add_le (a1 * x) (b1 * y);omega
theorem Cd.mul {p D M D' N:Int}{a b:Int × Int}(hp:FP p)(ha:Cd p D M a)(hb:Cd p D' N b):Cd p (D * D') (M * N) (cH p a b):=by
 have na:=ha.num.pos;have nb:=hb.num.pos;have nz:a.2 * b.2≠0:=Int.mul_ne_zero (by omega) (by omega);refine ⟨Num.set hp.nn nz,λz=>?_⟩;subst z;obtain ⟨x,ex,lx⟩:=ha.d rfl;obtain ⟨y,ey,ly⟩:=hb.d rfl;have e1:=ma (t:=a.1 * b.1) nz;have e2:=iV (t:=a.1 * b.1) nz;refine ⟨Nm.dv (a.1 * b.1) (a.2 * b.2) * (x * y),?_,?_⟩
 ·show b7 (a.1 * b.1) (a.2 * b.2) * (Nm.dv (a.1 * b.1) (a.2 * b.2) * (x * y))=D * D';rw [<-Int.mul_assoc,e2,<-ex,<-ey];grind
 ·show ((cM (a.1 * b.1) (a.2 * b.2) * (Nm.dv (a.1 * b.1) (a.2 * b.2) * (x * y))).natAbs:Int)<=M * N;rw [<-Int.mul_assoc,e1,show a.1 * b.1 * (x * y)=(a.1 * x) * (b.1 * y) by grind,Int.natAbs_mul];push_cast;exact Int.mul_le_mul lx ly (by omega) (by omega)
theorem FP.bits {p:Int}(hp:FP p)(z:p≠0){t b:Int}(h:Num p t b):B 7 t/\B 7 b:=by
 obtain ⟨_,_,Rw⟩:=hp.two z;obtain ⟨h1,h2,h3⟩:=h.pr z;constructor
 ·show t.natAbs < 2 ^ 7;omega
 ·show b.natAbs < 2 ^ 7;omega
theorem Cd.gn {p D M:Int}{n:Nat}{a:Int × Int}(hp:FP p)(h:Cd p D M a)(h7:7<=n)(LN:D≠0)(hD:B n D)(hM:B n M):Gn p n a:=by
 by_cases z:p=0
 ·obtain ⟨k,e,l⟩:=h.d z;have kz:k≠0:=λw=>LN (by rw [<-e,w,Int.mul_zero])
  have k1:1<=k.natAbs:=by omega
  refine ⟨h.num,?_,?_⟩
  ·have:(a.1 * k).natAbs<=M.natAbs:=by omega
   rw [Int.natAbs_mul] at this;exact hM.le (Nat.le_trans (Nat.le_mul_of_pos_right _ k1) this)
  ·rw [<-e] at hD;refine hD.le ?_;rw [Int.natAbs_mul];exact Nat.le_mul_of_pos_right _ k1
 ·obtain ⟨h1,h2⟩:=hp.bits z h.num;exact ⟨h.num,h1.mono h7,h2.mono h7⟩
theorem zY {p D M N:Int}{d:List Tm}{t:Tm}(hp:FP p)(hN:0<=N)(hM:0<=M)(hd:∀ e∈d,Cd p D M e.2)(ht:Cd p D N t.2):∀ e∈cX p d t,Cd p D (M + N) e.2:=by
 intro e he;unfold cX at he
 split at he
 ·obtain ⟨e0,h0,rfl⟩:=List.mem_map.mp he
  by_cases q:e0.1=t.1
  ·rw [if_pos q]; exact (hd e0 h0).add hp ht
  ·rw [if_neg q]; exact (hd e0 h0).mono (by omega)
 ·rcases List.mem_append.mp he with he | he
  ·exact (hd e he).mono (by omega)
  ·have:e=t:=by simpa using he
   rw [this]; exact ht.mono (by omega)
theorem sh {p D N:Int}(hp:FP p)(hN:0<=N):∀ (ts d:List Tm)(M:Int),0<=M->(∀ e∈d,Cd p D M e.2)->(∀ t∈ts,Cd p D N t.2)->∀ e∈ts.foldl (cX p) d,Cd p D (M + N * ts.length) e.2
 | [],d,M,hM,hd,_,e,he=>(hd e he).mono (by simp)
 | t :: ts,d,M,hM,hd,ht,e,he=>by
   have:=sh hp hN ts (cX p d t) (M + N) (by omega) (zY hp hN hM hd (ht t List.mem_cons_self)) (λt h=>ht t (List.mem_cons_of_mem _ h)) e he;refine this.mono ?_;rw [List.length_cons];push_cast;rw [Int.mul_add];omega
theorem tm {p D N:Int}{ts:List Tm}(hp:FP p)(hN:0<=N)(h:∀ t∈ts,Cd p D N t.2):∀ e∈aN p ts,Cd p D (N * ts.length) e.2:=λe he=>by
 have:=sh hp hN ts [] 0 (Int.le_refl 0) (λe h=>nomatch h) h e he;rwa [Int.zero_add] at this
theorem DA {p D N:Int}{ts:List Tm}(hp:FP p)(hN:0<=N)(h:∀ t∈ts,Cd p D N t.2):∀ e∈tg p ts,Cd p D (N * ts.length) e.2:=λe he=>tm hp hN h e (List.mem_filter.mp ((eO _).mem_iff.mp he)).1
theorem Gth.cd {p D N:Int}{ts:List Tm}(hp:FP p)(hN:0<=N)(h:∀ t∈ts,Cd p D N t.2)(LN:D≠0)(hD:B 4000 D)(hM:B 4000 (N * ts.length))(len:ts.length < 4000)(few:(aN p ts).length < 64):Gth p ts:=by
 have up:∀ i:Nat,i<=ts.length->B 4000 (N * (i:Int)):=λi hi=>hM.le (by
  rw [Int.natAbs_mul,Int.natAbs_mul]
  exact Nat.mul_le_mul_left _ (by omega))
 refine ⟨len,λt ht=>?_,λi hi e he=>?_,few⟩
 ·by_cases z:ts.length=0
  ·rw [List.length_eq_zero_iff.mp z] at ht
   exact nomatch ht
  ·refine (h t ht).gn hp (by decide) LN hD ?_;have:=up 1 (by omega);simpa using this
 ·have g:=tm (ts:=ts.take i) hp hN (λt ht=>h t (List.mem_of_mem_take ht)) e he;rw [List.length_take,Nat.min_eq_left hi] at g;exact g.gn hp (by decide) LN hD (up i hi)
noncomputable abbrev yf:Stmt:=(aZ 27)
theorem rO (p:Int):Gth p []:=⟨by decide,λt h=>(nomatch h),λi hi e he=>by
 have:aN p (([]:List Tm).take i)=[]:=by simp [aN]
 rw [this] at he
 exact (nomatch he),Nat.zero_lt_succ 63⟩
noncomputable def jh (C CF:Addr):Sp:=λvs H Q _=>∃ (fl Fg l:Addr)(p:Int)(ys:List V)(ts:List Tm),vs=[.ref fl,.ref l]/\H fl=some (.ins CF Fg (eI p))/\FP p/\H l=some (.lst ys)/\aH H ys ts/\Gth p ts/\∀ H' s,aB H H'->SumR C CF H' s p (tg p ts)->Q (.ref s) H'
theorem rJ:FnScope ["field","terms","one"] ["field","terms"] (aq yf):=dX (by decide +kernel)
variable {P:Program}{w:World}{K:PySem.W.Frag}{mg:Str->Option Value}{base:Heap}
theorem Ad:FnScope ["self","one","other"] ["self","one","other"] (aq vW):=dX (by decide +kernel)
theorem wm {f C fs:Addr}{fd Jw:FuncData}(F:Fun K "times" "Field.times" vW f fd)(c:FieldK K mg C)(FS:FnOk P w K mg base (aV P w) 3 fs Jw ["self","top","bottom"] (iz C))(bS:L2.aA K Jw ["self","top","bottom"] [])(mS:L2.Meth K C "settled" fs):
 FnOk P w K mg base (aV P w) 4 f fd ["self","one","other"] (n9 C fO):=by
 refine F.okN Ad (λvs H Q E h=>?_) (λFb A outer s H vs Q E hr h=>?_)
 ·obtain ⟨s,dx,a1,a2,p,t1,b1,t2,b2,rfl,_⟩:=h;rfl
 ·obtain ⟨s,dx,x1,x2,p,t1,b1,t2,b2,rfl,hs,hp,h1,h2,B1,B2,B3,B4,n1,n2,q⟩:=h;refine ⟨_,ar (az (aX (pv 0) c.cl mS FS hr bS .nil ae (ai (aJ de (aS a7 (pv 1) aj (λ_ _=>rfl)) (aS a7 (pv 2) aj (λ_ _=>rfl))) (ai (aJ de (aS a7 (pv 1) aj (λ_ _=>rfl)) (aS a7 (pv 2) aj (λ_ _=>rfl))) af)))),?_⟩;refine ⟨_,rfl,s,dx,_,rfl,hs,rfl,?_⟩;refine ⟨_,rfl,x1,_,0,_,rfl,rfl,a9.of h1,a0 _ _,_,rfl,x2,_,0,_,rfl,rfl,a9.of h2,a0 _ _,_,_,rfl,rfl,⟨B1.mono (by decide),B3.mono (by decide)⟩,?_⟩;refine ⟨_,rfl,x1,_,1,_,rfl,rfl,a9.of h1,a1 _ _,_,rfl,x2,_,1,_,rfl,rfl,a9.of h2,a1 _ _,_,_,rfl,rfl,⟨B2.mono (by decide),B4.mono (by decide)⟩,?_⟩;exact ⟨s,dx,p,_,_,rfl,hs,hp,(B2.mul B4).mono (by decide),mx n1 n2,q⟩
theorem v5 {f fg fI C CF:Addr}{fd Gq Gi:FuncData}(F:Fun K "built" "built" yf f fd)(c:SumK K mg C)(M:Mk K C fI)
 (FI:FnOk P w K mg base (aV P w) 6 fI Gi ["self","field","terms"] (gY C CF))(bI:L2.aA K Gi ["self","field","terms"] [Value.none])
 (FG:FnOk P w K mg base (aV P w) 5 fg Gq ["field","terms"] (nM CF))(bG:L2.aA K Gq ["field","terms"] [])(mG:mg "gathered"=some (.ref fg))(kG:keepIn K (.ref fg)=true):
 FnOk P w K mg base (aV P w) 8 f fd ["field","terms"] (jh C CF):=by
 refine F.okN rJ (λvs H Q E h=>?_) (λFb A outer s H vs Q E hr h=>?_)
 ·obtain ⟨fl,Fg,l,p,ys,ts,rfl,_⟩:=h;rfl
 ·obtain ⟨fl,Fg,l,p,ys,ts,rfl,hf,hp,hl,ht,G,q⟩:=h;have JX:Room 5 _:=hr.mono (by decide)
  refine ⟨_,ak (@aY _ _ 2 _ _ _ _ rJ.nd rfl (Or.inl rfl) (cT (dvs:=[.non]) M FI hr (by rfl) c.mgC bI (.cons rfl .nil) ae (@ai _ _ _ _ _ (pv 0) af rfl)) rfl (Or.inl rfl))
   (ak (mr (pv 2) (ax FG JX (by rfl) mG kG bG .nil ae (@ai _ _ _ _ _ (pv 0) (@ai _ _ _ _ _ (pv 1) af rfl) rfl)) rfl)
   (ar (az (pv 2)))),?_⟩
  refine ⟨_,rfl,λx dx hx ML ne=>?_⟩
  have s0:∀ b u,H b=some u->upd (upd H dx (.own x)) x (.ins C dx []) b=some u:=λb u e=>by
   rw [ao (au e hx),ao (au e ML)]; exact e
  refine ⟨x,dx,fl,Fg,p,.non,[],rfl,ah,s0 _ _ hf,hp,.inl ⟨rfl,rfl⟩,rO p,(λt ht=>nomatch ht),λH1 D0 zs0 sb _ TJ LN SM=>⟨rfl,?_⟩⟩;have s1:aB H H1:=λb u e=>sb _ _ (s0 _ _ e) (au e hx);refine ⟨_,rfl,_,rfl,fl,Fg,l,p,ys,ts,rfl,s1 _ _ hf,hp,s1 _ _ hl,aH.keep ht (ay.of s1),G,λH2 D zs s2 _ hD hz=>?_⟩;have My:=s2 _ _ TJ;refine ⟨_,rfl,x,C,dx,_,rfl,My,c.cl,c.nT,(by show 2 < 1000; decide),?_⟩
  have nD:D≠x:=λz=>by rw [z,My] at hD; cases hD
  have s3:aB H (upd H2 x (.ins C dx (dw "its_terms" (.ref D) (dw "its_terms" (.ref D0) (dw "its_field" (.ref fl) []))))):=λb u e=>by
   rw [ao (au e hx)];exact s2 _ _ (s1 _ _ e)
  exact ⟨_,rfl,q _ x s3 ⟨dx,fl,Fg,D,zs,ah,s3 _ _ hf,by rw [ao nD]; exact hD,aH.keep hz (ay.upd λxs z=>by rw [My] at z; cases z)⟩⟩
noncomputable abbrev Cz:Stmt:=(aZ 24)
noncomputable def spTog:Sp:=λvs H Q _=>∃ (a b:Addr)(ks ms:List Int),vs=[.ref a,.ref b]/\H a=some (.tup (ks.map V.int))/\H b=some (.tup (ms.map V.int))/\ks.Pairwise (· < ·)/\ms.Pairwise (· < ·)/\ks.length + ms.length < 64 /\
 ∀ c H',aB H H'->H' c=some (.tup ((gM (ks++ms)).map V.int))->Q (.ref c) H'
theorem DE:FnScope ["one","other"] ["one","other"] (aq Cz):=dX (by decide +kernel)
theorem BO {f:Addr}{fd:FuncData}(F:Fun K "together" "together" Cz f fd)(Fc:mg "tuple"=none)(Ff:mg "sorted"=none)(Gb:mg "set"=none):FnOk P w K mg base (aV P w) 1 f fd ["one","other"] spTog:=by
 refine F.okN DE (λvs H Q E h=>?_) (λFb A outer s H vs Q E hr h=>?_)
 ·obtain ⟨a,b,ks,ms,rfl,_⟩:=h;rfl
 ·obtain ⟨a,b,ks,ms,rfl,ha,hb,pk,pm,hl,q⟩:=h
  refine ⟨_,(ak (bg (bU (ku (pv 0) (λ_=>rfl))) (ar (az (pv 1))) aD)
   (ak (bg (bU (ku (pv 1) (λ_=>rfl))) (ar (az (pv 0))) aD)
   (ar (az (c9 eB (by rfl) Fc (by rfl) (@ai _ _ _ _ _ (jz rfl (@aJ _ _ _ _ _ _ _ _ r8 (pv 0) (pv 1)) rfl (by rfl) Ff (by rfl) Gb) af rfl)))))),?_⟩
  refine ⟨_,rfl,!(ks.map V.int).isEmpty,.inr (.inl ⟨_,a9.of ha,rfl⟩),?_⟩
  cases ks with
  | nil =>
    refine cb ⟨_,rfl,q b H (aB.refl _) ?_⟩;rw [hb,<-mz pm (l:=[]++ms) λz=>Iff.rfl]
  | cons k ks =>
    refine bF ⟨_,rfl,!(ms.map V.int).isEmpty,.inr (.inl ⟨_,a9.of hb,rfl⟩),?_⟩
    cases ms with
    | nil =>
      refine cb ⟨_,rfl,q a H (aB.refl _) ?_⟩;rw [ha,<-mz pk (l:=(k :: ks)++[]) λz=>by simp]
    | cons m ms =>
      refine bF ?_;refine ⟨_,rfl,_,rfl,a,b,_,_,rfl,rfl,a9.of ha,a9.of hb,(by simp),Nat.le_trans (show _<=64 by simp only [List.length_map]; omega) (by decide),(λz=>by cases z),λ_ c hc=>?_⟩;refine ⟨c,(k :: ks)++(m :: ms),rfl,.inr (a9.of (by rw [ah,List.map_append])),(by rw [List.length_append]; exact hl),λD us hD pw mem=>?_⟩;refine ⟨D,_,rfl,.inl ⟨bu.of ah,λl Gu=>q l _ (((av hc).trans (av hD)).trans (av Gu)) ?_⟩⟩;rw [ah,mz pw mem]
noncomputable abbrev Ak:Stmt:=aU (aZ 26) 9
noncomputable abbrev CZ:Stmt:=aU (aZ 26) 10
theorem j4 {α β:Type}{R:α->β->Prop}:∀ {l:List α}{m:List β}{l':List α}{m':List β},Paired R l m->Paired R l' m'->Paired R (l++l') (m++m')
 | _,_,_,_,.nil,h=>h
 | _,_,_,_,.cons a t,h=>.cons a (j4 t h)
noncomputable def qZ (C CF:Addr):Sp:=λvs H Q _=>∃ (s s':Addr)(p p':Int)(a b:List Tm),vs=[.ref s,.ref s']/\SumR C CF H s p a/\SumR C CF H s' p' b/\Q (.bl (decide (p'=p))) H
noncomputable def ll (C CF UN:Addr):Sp:=λvs H Q E=>∃ (s s':Addr)(p p':Int)(a b:List Tm),vs=[.ref s,.ref s']/\SumR C CF H s p a/\SumR C CF H s' p' b/\FP p/\a.length + b.length < 4000 /\
 (p'=p->Gth p (a++b)/\∀ H' u,aB H H'->SumR C CF H' u p (tg p (a++b))->Q (.ref u) H')/\(p'≠p->E (.ref UN) none H)
theorem BD:FnScope ["self","thing"] ["self","thing"] (aq Ak):=dX (by decide +kernel)
theorem Dj:FnScope ["self","other"] ["self","other"] (aq CZ):=dX (by decide +kernel)
theorem z9 {f fe C CF:Addr}{fd LI:FuncData}(F:Fun K "is_like" "Sum.is_like" Ak f fd)(c:SumQ K mg C)(cF:FieldK K mg CF)(E8:mg "isinstance"=none)
 (FE:FnOk P w K mg base (aV P w) 1 fe LI ["self","other"] (BY CF))(bE:L2.aA K LI ["self","other"] [])(nE:findIn K (.ref CF) "__eq__"=some (some (.ref fe)))(iE:isFn K (.ref fe)=true):
 FnOk P w K mg base (aV P w) 2 f fd ["self","thing"] (qZ C CF):=by
 refine F.okN BD (λvs H Q E h=>?_) (λFb A outer s H vs Q E hr h=>?_)
 ·obtain ⟨s,s',p,p',a,b,rfl,_⟩:=h;rfl
 ·obtain ⟨s0,s1,p,p',a,b,rfl,S,S1,q⟩:=h;have FF:Room 1 _:=hr.mono (by decide);refine ⟨_,(ar (az (cE (aF aR (by rfl) E8 (by rfl) (@ai _ _ _ _ _ (pv 1) (@ai _ _ _ _ _ (cL (by rfl) c.c.mgC (show aC (.ref C) (.ref C) from rfl)) af rfl) rfl)) (dC (@bZ _ _ _ _ _ _ _ _ (oU nE iE FE FF bE ae) (bK (pv 1) rfl) (bK (pv 0) rfl) (aI _)))))),?_⟩;obtain ⟨dx,fl,Fg,Dd,zs,h1,h2,h3,h4⟩:=S.ex;obtain ⟨Jz,LJ,Hx,MI,NM,g1,g2,g3,g4⟩:=S1.ex;refine ⟨_,rfl,.ref s1,.ref C,_,_,_,rfl,rfl,c.ty g1,c.is,_,rfl,cb ?_⟩;refine ⟨_,rfl,s1,C,Jz,_,_,rfl,g1,c.c.cl,c.c.nF,rfl,_,rfl,s0,C,dx,_,_,rfl,h1,c.c.cl,c.c.nF,rfl,?_⟩;refine ⟨LJ,Hx,_,.ref CF,rfl,g2,cF.ty h2,ni,LJ,Hx,p',.ref fl,rfl,g2,.inl ⟨fl,Fg,p,rfl,h2,_,rfl,?_⟩⟩;simpa using q
theorem w8 {f fl fb C CF UN:Addr}{fd FK JY:FuncData}(F:Fun K "plus" "Sum.plus" CZ f fd)(c:SumQ K mg C)(mU:mg "Unlike"=some (.ref UN))(qU:excIn K UN Bg p3=true)
 (TK:FnOk P w K mg base (aV P w) 2 fl FK ["self","thing"] (qZ C CF))(TL:L2.aA K FK ["self","thing"] [])(TM:L2.Meth K C "is_like" fl)
 (NP:FnOk P w K mg base (aV P w) 8 fb JY ["field","terms"] (jh C CF))(NQ:L2.aA K JY ["field","terms"] [])(NR:mg "built"=some (.ref fb))(NT:keepIn K (.ref fb)=true):
 FnOk P w K mg base (aV P w) 9 f fd ["self","other"] (ll C CF UN):=by
 refine F.okE Dj (λvs H Q E h=>?_) (λFb A outer s H vs Q E hr h=>?_)
 ·obtain ⟨s,s',p,p',a,b,rfl,_⟩:=h;rfl
 ·obtain ⟨s0,s1,p,p',a,b,rfl,S,S1,hp,hl,q1,q2⟩:=h;have Ip:Room 8 _:=hr;have FQ:Room 2 _:=Ip.mono (by decide)
  refine ⟨_,(ak (bg (bU (b9 (aX (pv 0) c.c.cl TM TK FQ TL .nil ae (@ai _ _ _ _ _ (pv 1) af rfl)))) (ar (gP PySem.F.excBase_ValueError qU rfl eV (by rfl) mU (@ai _ _ _ _ _ cY af rfl))) aD)
   (ar (az (ax NP Ip (by rfl) NR NT NQ .nil ae (@ai _ _ _ _ _ (bK (pv 0) rfl) (@ai _ _ _ _ _ (@aJ _ _ _ _ _ _ _ _ xX (bK (pv 0) rfl) (bK (pv 1) rfl)) af rfl) rfl))))),?_⟩
  obtain ⟨dx,MM,Fg,Dd,zs,h1,h2,h3,h4⟩:=S.ex;obtain ⟨Jz,LJ,Hx,MI,NM,g1,g2,g3,g4⟩:=S1.ex;refine ⟨_,rfl,s0,dx,_,rfl,h1,rfl,_,rfl,s0,s1,p,p',a,b,rfl,S,S1,_,rfl,?_⟩
  by_cases e:p'=p
  ·rw [decide_eq_true e];obtain ⟨G,q1⟩:=q1 e;refine bF ⟨_,rfl,s0,C,dx,_,_,rfl,h1,c.c.cl,c.c.nF,rfl,_,rfl,s0,C,dx,_,_,rfl,h1,c.c.cl,c.c.nT,rfl,_,rfl,s1,C,Jz,_,_,rfl,g1,c.c.cl,c.c.nT,rfl,?_⟩;have z1:=h4.length;have z2:=g4.length;refine ⟨Dd,MI,_,_,rfl,rfl,h3,g3,Nat.le_trans (show _<=4000 by omega) (by decide),λl Gu=>?_⟩;have s2:=av (o:=.lst (zs++NM)) Gu;exact ⟨MM,Fg,l,p,_,a++b,rfl,s2 _ _ h2,hp,ah,j4 (aH.keep h4 (ay.of s2)) (aH.keep g4 (ay.of s2)),G,λH' u s3 hu=>q1 _ u (s2.trans s3) hu⟩
  ·rw [decide_eq_false e];exact cb ⟨by decide,q2 e⟩
noncomputable abbrev tN:Stmt:=(aZ 43)
theorem yd:FnScope ["_law_prime_here","_law_one","_law_other"] ["_law_prime_here","_law_one","_law_other"] (aq tN):=dX (by decide +kernel)
theorem uU {f fl:Addr}{fd FK:FuncData}(F:Fun K "_law_times" "_law_times" tN f fd)(FL:FnOk P w K mg base (aV P w) 2 fl FK ["_law_prime_here","_law_top","_law_bottom"] spMake)(bL:L2.aA K FK ["_law_prime_here","_law_top","_law_bottom"] [])(mL:mg "_law_make"=some (.ref fl))(kL:keepIn K (.ref fl)=true):
 FnOk P w K mg base (aV P w) 3 f fd ["_law_prime_here","_law_one","_law_other"] (jQ fO):=by
 refine F.okN yd (λvs H Q E h=>?_) (λFb A outer s H vs Q E hr h=>?_)
 ·obtain ⟨p,t1,b1,t2,b2,x1,x2,rfl,_⟩:=h;rfl
 ·obtain ⟨p,t1,b1,t2,b2,x1,x2,rfl,hp,h1,h2,B1,B2,B3,B4,n1,n2,hb,q⟩:=h;refine ⟨_,ar (az (ax FL hr (by rfl) mL kL bL .nil ae (ai (pv 0) (ai (aJ de (aS a7 (pv 1) aj (λ_ _=>rfl)) (aS a7 (pv 2) aj (λ_ _=>rfl))) (ai (aJ de (aS a7 (pv 1) aj (λ_ _=>rfl)) (aS a7 (pv 2) aj (λ_ _=>rfl))) af))))),?_⟩;refine ⟨_,rfl,?_⟩;refine ⟨_,rfl,x1,_,0,_,rfl,rfl,a9.of h1,a0 _ _,_,rfl,x2,_,0,_,rfl,rfl,a9.of h2,a0 _ _,_,_,rfl,rfl,⟨B1.mono (by decide),B3.mono (by decide)⟩,?_⟩;refine ⟨_,rfl,x1,_,1,_,rfl,rfl,a9.of h1,a1 _ _,_,rfl,x2,_,1,_,rfl,rfl,a9.of h2,a1 _ _,_,_,rfl,rfl,⟨B2.mono (by decide),B4.mono (by decide)⟩,?_⟩;exact ⟨p,_,_,rfl,hp,mx n1 n2,(B2.mul B4).mono (by decide),(B1.mul B3).mono (by decide),hb,q⟩
end K06
namespace L2
open PySem PySem.Spec PyProof.Rows
section
variable {prog:Program}{w:World}{A:Around}{E:Value->Shared->Prop}{s:Shared}
theorem xg {t b:Addr}{ws:List Value}{Q:Value->Shared->Prop}(ht:IsTup s.heap t #[])(hb:IsTup s.heap b ws.toArray)(h:Q (.ref b) s):wpAny (model prog w) A (binaryOp .Add (.ref t) (.ref b)) Q E s:=by
 obtain ⟨⟨cls,dd,data,sl⟩,ho,hc,n,hd⟩:=id ht;obtain ⟨⟨M8,JI,data2,HR⟩,Hv,Hi,n2,hd2⟩:=id hb;simp only at hc hd Hi hd2;subst hc hd Hi hd2
 exact concat_meets ⟨_,ho,rfl⟩ ⟨_,Hv,rfl⟩ noFill_tuple_add seq_tuple_add PySem.F.slot_tuple_add PySem.F.entry_tuple_add (PySem.F.args_tuple_add_2 _ _)
  (tuple_addW0 t b #[] ws.toArray n n2 dd JI sl HR (by rfl)) ⟨ho,Hv,h⟩
end
section
variable {X:Cx}
noncomputable def Ap (K:PySem.W.Frag):R2:=λx y H Q=>∃ a b xs ys,x = .ref a/\y = .ref b/\a9 K H a xs/\a9 K H b ys/\xs.length + ys.length<=sizeLine /\
 (xs=[]->Q (.ref b) H)/\(xs≠[]->ys=[]->Q (.ref a) H)/\(xs≠[]->ys≠[]->∀ p,H p=none->Q (.ref p) (upd H p (.tup (xs++ys))))
theorem yS:f9 X (binaryOp .Add) (Ap X.K):=by
 intro pins s σ H x y v u Q I rx ry h;obtain ⟨a,b,xs,ys,rfl,rfl,ha,hb,hz,q0,q1,q2⟩:=h
 by_cases hx:xs=[]
 ·cases rx
  cases ry
  obtain ⟨its,r1,p1,_⟩:=I.tuple ha;obtain ⟨Fe,r2,p2,_⟩:=I.tuple hb;have:its=[]:=r1.nil_iff.mpr hx;subst this;exact xg p1 p2 ⟨.ref b,H,I,rfl,q0 hx⟩
 ·exact r8 pins s σ H _ _ v u Q I rx ry ⟨a,b,xs,ys,rfl,rfl,ha,hb,hx,hz,q1 hx,q2 hx⟩
end
end L2
namespace K06
open PySem L2 PySem.W Nm Srt
noncomputable abbrev ES:Stmt:=(aZ 49)
noncomputable def DF (t:Tm):Prop:=t.1.Pairwise (· < ·)/\t.1.length < 32
noncomputable def spLM:Sp:=λvs H Q _=>∃ (p:Int)(la lb:Addr)(ys us:List V)(a b:List Tm),vs=[.int p,.ref la,.ref lb]/\FP p/\H la=some (.lst ys)/\aH H ys a/\H lb=some (.lst us)/\aH H us b/\a.length * b.length < 4000 /\
 (∀ t∈a,Gn p 4000 t.2/\DF t)/\(∀ t∈b,Gn p 4000 t.2/\DF t)/\Gth p (cG p a b)/\∀ H' D zs,aB H H'->H' D=some (.lst zs)->aH H' zs (tg p (cG p a b))->Q (.ref D) H'
theorem qt:FnScope ["_law_prime_here","_law_one","_law_other","_law_found","_law_product_here","_law_number_here","_law_more","_law_factor","_law_both_here"] ["_law_prime_here","_law_one","_law_other"] (aq ES):=dX (by decide +kernel)
theorem yW {K:Frag}{a b:Addr}{xs ys:List V}{H:Hp}{Q:VK}(ha:H a=some (.tup xs))(hb:H b=some (.tup ys))(hz:xs.length + ys.length<=sizeLine)(q:∀ l H',aB H H'->H' l=some (.tup (xs++ys))->Q (.ref l) H'):Ap K (.ref a) (.ref b) H Q :=
 ⟨a,b,xs,ys,rfl,rfl,a9.of ha,a9.of hb,hz,λh=>q b H (aB.refl _) (by rw [hb,h]; rfl),λ_ h=>q a H (aB.refl _) (by rw [ha,h,List.append_nil]),λ_ _ l hl=>q l _ (av hl) ah⟩
theorem lz (p:Int)(a b:List Tm)(x:Tm):cG p (a++[x]) b=cG p a b++b.map λy=>(gM (x.1++y.1),cH p x.2 y.2):=by simp [cG]
theorem kq (p:Int)(a b:List Tm):(cG p a b).length=a.length * b.length:=by
 unfold cG;rw [List.length_flatMap];simp only [List.length_map];rw [List.map_const',List.sum_replicate_nat]
variable {P:Program}{w:World}{K:PySem.W.Frag}{mg:Str->Option Value}{base:Heap}
set_option maxHeartbeats 1000000 in
theorem xn {f fm fg:Addr}{fd MN Gq:FuncData}(F:Fun K "_law_mult" "_law_mult" ES f fd)(Fc:mg "tuple"=none)(Ff:mg "sorted"=none)(Gb:mg "set"=none)
 (FM:FnOk P w K mg base (aV P w) 3 fm MN ["_law_prime_here","_law_one","_law_other"] (jQ fO))(bM:L2.aA K MN ["_law_prime_here","_law_one","_law_other"] [])(mM:mg "_law_times"=some (.ref fm))(kM:keepIn K (.ref fm)=true)
 (FG:FnOk P w K mg base (aV P w) 4 fg Gq ["_law_prime_here","_law_terms_here"] spLGath)(bG:L2.aA K Gq ["_law_prime_here","_law_terms_here"] [])(mG:mg "_law_gather"=some (.ref fg))(kG:keepIn K (.ref fg)=true):
 FnOk P w K mg base (aV P w) 5 f fd ["_law_prime_here","_law_one","_law_other"] spLM:=by
 refine F.okN qt (λvs H Q E h=>?_) (λFb A outer s H vs Q E hr h=>?_)
 ·obtain ⟨p,la,lb,ys,us,a,b,rfl,_⟩:=h;rfl
 ·obtain ⟨p,la,lb,ys,us,a,b,rfl,hp,FY,FR,Jf,Hl,GX,ga,gb,G,q⟩:=h;have GP:Room 4 _:=hr;have Gg:Room 3 _:=GP.mono (by decide)
  refine ⟨_,(ak (@aY _ _ 3 _ _ _ _ qt.nd rfl (Or.inl rfl) (@cW _ _ _ _ af) rfl (Or.inl rfl))
   (ak (gB PassesOwn.never rfl (dF (pv 1)) (cZ rfl (aE (aG (i:=4) qt.nd rfl (Or.inl rfl)) (aE (aG (i:=5) qt.nd rfl (Or.inl rfl)) cj)))
   (ar (gB PassesOwn.never rfl (dF (pv 2)) (cZ rfl (aE (aG (i:=6) qt.nd rfl (Or.inl rfl)) (aE (aG (i:=7) qt.nd rfl (Or.inl rfl)) cj)))
   (ak (@aY _ _ 8 _ _ _ _ qt.nd rfl (Or.inl rfl) (c9 eB (by rfl) Fc (by rfl) (@ai _ _ _ _ _ (jz rfl (@aJ _ _ _ _ _ _ _ _ yS (pv 4) (pv 6)) rfl (by rfl) Ff (by rfl) Gb) af rfl)) rfl (Or.inl rfl))
   (ar (m8 (sM PySem.F.plainAttrs_list PySem.F.slot_list_append PySem.F.type_list_append mn (pv 3) (@ai _ _ _ _ _ (@bV _ _ _ _ _ (@ai _ _ _ _ _ (pv 8) (@ai _ _ _ _ _ (ax FM Gg (by rfl) mM kM bM .nil ae (@ai _ _ _ _ _ (pv 0) (@ai _ _ _ _ _ (pv 5) (@ai _ _ _ _ _ (pv 7) af rfl) rfl) rfl)) af rfl) rfl)) af rfl))))))))
   (ar (az (ax FG GP (by rfl) mG kG bG .nil ae (@ai _ _ _ _ _ (pv 0) (@ai _ _ _ _ _ (pv 3) af rfl) rfl)))))),?_⟩
  refine ⟨Nat.zero_le _,λL hL=>?_⟩;have s1:=av (o:=.lst []) hL;have e1:upd H L (.lst []) L=some (.lst []):=ah;generalize upd H L _=H1 at s1 e1 |-;have za:=FR.length;have zb:=Hl.length;refine ⟨_,rfl,la,rfl,⟨_,bu.of (s1 _ _ FY)⟩,?_⟩;refine oA (K:=K) (a:=la) (xs:=ys) (λi σ H'=>aB H H'/\(∃ ws,H' L=some (.lst ws)/\aH H' ws (cG p (a.take i) b))/\∃ o4 o5 o6 o7 o8,σ=[some (.int p),some (.ref la),some (.ref lb),some (.ref L),o4,o5,o6,o7,o8]) ⟨s1,⟨[],e1,.nil⟩,_,_,_,_,_,rfl⟩ (λj σ H' _ h=>bu.of (h.1 _ _ FY)) ?_ ?_
  ·rintro i y σ H2 hy ⟨s2,⟨ws,eL,hw⟩,o4,o5,o6,o7,o8,rfl⟩;obtain ⟨x,ex,at_,pr,nu,rfl,GC,FA,Fx⟩:=bH FR hy;have gx:=ga x (List.mem_of_getElem? ex);have hi:i < a.length:=(List.getElem?_eq_some_iff.mp ex).1
   have Gh:a.take (i + 1)=a.take i++[x]:=by rw [List.take_add_one,ex]; rfl
   refine ⟨at_,_,rfl,a9.of (s2 _ _ GC),rfl,_,_,rfl,_,_,rfl,rfl,?_⟩;refine ⟨_,rfl,lb,rfl,⟨_,bu.of (s2 _ _ Jf)⟩,?_⟩;refine oA (K:=K) (a:=lb) (xs:=us) (λj σ H'=>aB H H'/\(∃ ws,H' L=some (.lst ws)/\aH H' ws (cG p (a.take i) b++(b.take j).map λy=>(gM (x.1++y.1),cH p x.2 y.2)))/\∃ o6 o7 o8,σ=[some (.int p),some (.ref la),some (.ref lb),some (.ref L),some (.ref pr),some (.ref nu),o6,o7,o8]) ⟨s2,⟨ws,eL,by simpa using hw⟩,_,_,_,rfl⟩ (λj σ H' _ h=>bu.of (h.1 _ _ Jf)) ?_ ?_
   ·rintro j y σ H3 hy ⟨s3,⟨ws,eL,hw⟩,o6,o7,o8,rfl⟩;obtain ⟨z,ez,at2,TN,LO,rfl,LP,LQ,Iq⟩:=bH Hl hy;have gz:=gb z (List.mem_of_getElem? ez);have hj:j < b.length:=(List.getElem?_eq_some_iff.mp ez).1
    have LR:b.take (j + 1)=b.take j++[z]:=by rw [List.take_add_one,ez]; rfl
    refine ⟨at2,_,rfl,a9.of (s3 _ _ LP),rfl,_,_,rfl,_,_,rfl,rfl,?_⟩
    have Gs:(x.1.map V.int).length + (z.1.map V.int).length < 64:=by
     rw [List.length_map,List.length_map];have:=gx.2.2;have:=gz.2.2;omega
    refine ⟨_,rfl,_,rfl,yW (s3 _ _ FA) (s3 _ _ LQ) (Nat.le_trans (Nat.le_of_lt Gs) (by decide)) λl H4 s4 el=>?_⟩;refine ⟨l,x.1++z.1,rfl,.inr (a9.of (by rw [el,List.map_append])),(by rw [List.length_append]; simpa using Gs),λD ms hD pw mem=>?_⟩;have em:ms=gM (x.1++z.1):=mz pw mem;subst em;refine ⟨D,_,rfl,.inl ⟨bu.of ah,λtu Hy=>?_⟩⟩;have s5:=(av (o:=.lst ((gM (x.1++z.1)).map V.int)) hD).trans (av (o:=.tup ((gM (x.1++z.1)).map V.int)) Hy);have e5:upd (upd H4 D (.lst ((gM (x.1++z.1)).map V.int))) tu (.tup ((gM (x.1++z.1)).map V.int)) tu=some (.tup ((gM (x.1++z.1)).map V.int)):=ah;generalize upd (upd H4 D (.lst ((gM (x.1++z.1)).map V.int))) tu (.tup ((gM (x.1++z.1)).map V.int))=H5 at s5 e5 |-;have NU:=s4.trans s5;have LS:=s3.trans NU;have Xc:=NU _ _ eL;clear hD Hy;refine ⟨_,rfl,.inl ⟨rfl,_,bu.of Xc⟩,_,rfl,_,rfl,_,rfl,_,rfl,p,x.2.1,x.2.2,z.2.1,z.2.2,nu,LO,rfl,hp,LS _ _ Fx,LS _ _ Iq,gx.1.2.1,gx.1.2.2,gz.1.2.1,gz.1.2.2,gx.1.ne,gz.1.ne,(λw=>by rw [(gx.1.1.pr w).1,(gz.1.1.pr w).1]; rfl),λH6 an s6 e6=>?_⟩;refine ⟨kZ,λtt To=>?_⟩;have s7:=av (o:=.tup [.ref tu,.ref an]) To;have e7:upd H6 tt (.tup [.ref tu,.ref an]) tt=some (.tup [.ref tu,.ref an]):=ah;generalize upd H6 tt _=H7 at s7 e7 |-;have RK:=s6.trans s7;have Xd:=RK _ _ Xc
    have wl:ws.length < 4000:=by
     rw [hw.length,List.length_append,kq,List.length_map,List.length_take,List.length_take]
     have h1:min i a.length=i:=by omega
     have h2:min j b.length=j:=by omega
     rw [h1,h2];have h3:(i + 1) * b.length<=a.length * b.length:=Nat.mul_le_mul_right _ (by omega);rw [Nat.succ_mul] at h3;omega
    refine ⟨L,ws,.ref tt,rfl,rfl,Xd,Nat.lt_of_lt_of_le wl (by decide),?_⟩
    have kL:ay H7 (upd H7 L (.lst (ws++[.ref tt]))):=ay.upd λxs w=>by rw [Xd] at w; cases w
    have Z5:ay H3 H7:=ay.of (NU.trans RK);refine ⟨λc u e=>?_,⟨_,ah,?_⟩,_,_,_,rfl⟩
    ·rw [ao (au e hL)];exact RK _ _ (LS _ _ e)
    ·rw [LR,List.map_append,<-List.append_assoc];exact Paired.snoc (aH.keep hw (Z5.trans kL)) ⟨tt,tu,an,rfl,kL _ _ e7,kL _ _ (RK _ _ e5),kL _ _ (s7 _ _ e6)⟩
   ·rintro σ H3 ⟨s3,⟨ws,eL,hw⟩,o6,o7,o8,rfl⟩;refine ⟨s3,⟨ws,eL,?_⟩,_,_,_,_,_,rfl⟩;rw [Gh,lz];rw [zb,List.take_length] at hw;exact hw
  ·rintro σ H2 ⟨s2,⟨ws,eL,hw⟩,o4,o5,o6,o7,o8,rfl⟩;rw [za,List.take_length] at hw;exact ⟨_,rfl,_,rfl,L,p,ws,_,rfl,hp,eL,hw,G,λH' D zs s3 hD hz=>q H' D zs (s2.trans s3) hD hz⟩
end K06
namespace L2
open PySem PySem.Spec PyProof.Rows
section
variable {prog:Program}{w:World}{A:Around}{R:Result->Shared->Prop}{s:Shared}
theorem oY (elt:Expr)(g0:Comprehension)(target iter:Expr)(ifs:List Expr)(scope:Scope)(pos:Pos)(it acc:Value)(env:Env):
 compTurn (.ListComp elt [g0,⟨target,iter,ifs,0⟩] scope pos) 1 it acc env=(do
  standAt iter.pos
  match <-pyNext it with
  | none=>pure (.done .next)
  | some v=>do
    letOwnedTupleGo target it v
    assign target env v
    let ok <-forIn ifs true λc r=>if r=true then do let ok <-PySem.isTrue c env (eval c env); pure (ForInStep.yield ok) else pure (ForInStep.yield r)
    if ok=true then do
     let _ <-(do
      let x <-eval elt env
      let _ <-call (Value.builtin "list.append") [acc,x]
      pure ())
     again (.compLoop (.ListComp elt [g0,⟨target,iter,ifs,0⟩] scope pos) 1 it acc env)
    else again (.compLoop (.ListComp elt [g0,⟨target,iter,ifs,0⟩] scope pos) 1 it acc env)):=by
 unfold compTurn;rfl
theorem mO (elt t0 i0:Expr)(t1 i1:Expr)(Jg if1:List Expr)(scope:Scope)(pos:Pos)(it acc:Value)(env:Env):
 compTurn (.ListComp elt [⟨t0,i0,Jg,0⟩,⟨t1,i1,if1,0⟩] scope pos) 0 it acc env=(do
  standAt i0.pos
  match <-pyNext it with
  | none=>pure (.done .next)
  | some v=>do
    letOwnedTupleGo t0 it v
    assign t0 env v
    let ok <-forIn Jg true λc r=>if r=true then do let ok <-PySem.isTrue c env (eval c env); pure (ForInStep.yield ok) else pure (ForInStep.yield r)
    if ok=true then do
     let x <-eval i1 env
     standAt i1.pos
     let x <-foldedSetIterable i1 env x
     let y <-holding [x] (pyIter x)
     let _ <-runOwn (.compStart (.ListComp elt [⟨t0,i0,Jg,0⟩,⟨t1,i1,if1,0⟩] scope pos) 1 y acc env) env
     again (.compLoop (.ListComp elt [⟨t0,i0,Jg,0⟩,⟨t1,i1,if1,0⟩] scope pos) 0 it acc env)
    else again (.compLoop (.ListComp elt [⟨t0,i0,Jg,0⟩,⟨t1,i1,if1,0⟩] scope pos) 0 it acc env)):=by
 unfold compTurn;rfl
theorem pW {elt target iter:Expr}{g0:Comprehension}{ifs:List Expr}{scope:Scope}{pos:Pos}{it acc:Value}{env:Env}(I:Nat->Shared->Prop)
 (turn:∀ n s,I n s->wpAny (model prog w) A (pyNext it) (λr s₁=>match r with
  | none=>R (.ok .next) s₁
  | some v=>wpAny (model prog w) A (letOwnedTupleGo target it v) (λ_ s₁=>wpAny (model prog w) A (assign target env v) (λ_ s₂ =>
   wpAny (model prog w) A (forIn ifs true λc r=>if r=true then do let ok <-isTrue c env (eval c env); pure (ForInStep.yield ok) else pure (ForInStep.yield r)) (λok s₃ =>
    if ok=true then wpAny (model prog w) A (eval elt env) (λx s₄ =>
     wpAny (model prog w) A (call (.builtin "list.append") [acc,x]) (λ_ s₅=>∃ m,m < n/\I m s₅) (λ_ _=>False) s₄) (λ_ _=>False) s₃
    else ∃ m,m < n/\I m s₃) (λ_ _=>False) s₂) (λ_ _=>False) s₁) (λ_ _=>False) s₁) (λ_ _=>False) s)
 (n:Nat)(h:I n s):
 codeAny (model prog w) A (.compLoop (.ListComp elt [g0,⟨target,iter,ifs,0⟩] scope pos) 1 it acc env) R s:=by
 refine codeAny_loop rfl I (λn s hI=>?_) n h;show wpAny _ A ((compTurn (.ListComp elt [g0,⟨target,iter,ifs,0⟩] scope pos) 1 it acc env).onRaise (λx=>do noteFrame x env; theTreesLotGoes x)) _ _ s;refine wpAny_noted ?_;rw [oY];refine wpAny_bind (wpAny_standAt (wpAny_bind (wpAny_mono (turn n s hI) (λr s₁ h₁=>?_) λ_ _ z=>False.elim z)))
 cases r with
 | none=>exact wpAny_pure h₁
 | some v =>
   refine wpAny_bind (wpAny_mono h₁ (λ_ Wr Nc=>?_) λ_ _ z=>False.elim z);refine wpAny_bind (wpAny_mono Nc (λ_ s₂ h₂=>wpAny_bind (wpAny_mono h₂ (λok s₃ h₃=>?_) λ_ _ z=>False.elim z)) λ_ _ z=>False.elim z)
   cases ok with
   | false=>exact wpAny_pure ⟨rfl,h₃⟩
   | true =>
     exact wpAny_bind (wpAny_bind (wpAny_mono h₃ (λx s₄ h₄=>wpAny_bind (wpAny_mono h₄ (λ_ s₅ h₅=>wpAny_pure (wpAny_pure ⟨rfl,h₅⟩)) λ_ _ z=>False.elim z)) λ_ _ z=>False.elim z))
theorem mV {elt t0 i0 t1 i1:Expr}{Jg if1:List Expr}{scope:Scope}{pos:Pos}{it acc:Value}{env:Env}(I:Nat->Shared->Prop)(NV:∀ x,foldedSetIterable i1 env x=pure x)
 (turn:∀ n s,I n s->wpAny (model prog w) A (pyNext it) (λr s₁=>match r with
  | none=>R (.ok .next) s₁
  | some v=>wpAny (model prog w) A (letOwnedTupleGo t0 it v) (λ_ s₁=>wpAny (model prog w) A (assign t0 env v) (λ_ s₂ =>
   wpAny (model prog w) A (forIn Jg true λc r=>if r=true then do let ok <-isTrue c env (eval c env); pure (ForInStep.yield ok) else pure (ForInStep.yield r)) (λok s₃ =>
    if ok=true then wpAny (model prog w) A (eval i1 env) (λx s₄ =>
     wpAny (model prog w) A (holding [x] (pyIter x)) (λy s₅=>wpAny (model prog w) A (runOwn (.compStart (.ListComp elt [⟨t0,i0,Jg,0⟩,⟨t1,i1,if1,0⟩] scope pos) 1 y acc env) env) (λ_ s₆=>∃ m,m < n/\I m s₆) (λ_ _=>False) s₅) (λ_ _=>False) s₄) (λ_ _=>False) s₃
    else ∃ m,m < n/\I m s₃) (λ_ _=>False) s₂) (λ_ _=>False) s₁) (λ_ _=>False) s₁) (λ_ _=>False) s)
 (n:Nat)(h:I n s):
 codeAny (model prog w) A (.compLoop (.ListComp elt [⟨t0,i0,Jg,0⟩,⟨t1,i1,if1,0⟩] scope pos) 0 it acc env) R s:=by
 refine codeAny_loop rfl I (λn s hI=>?_) n h;show wpAny _ A ((compTurn (.ListComp elt [⟨t0,i0,Jg,0⟩,⟨t1,i1,if1,0⟩] scope pos) 0 it acc env).onRaise (λx=>do noteFrame x env; theTreesLotGoes x)) _ _ s;refine wpAny_noted ?_;rw [mO];refine wpAny_bind (wpAny_standAt (wpAny_bind (wpAny_mono (turn n s hI) (λr s₁ h₁=>?_) λ_ _ z=>False.elim z)))
 cases r with
 | none=>exact wpAny_pure h₁
 | some v =>
   refine wpAny_bind (wpAny_mono h₁ (λ_ Wr Nc=>?_) λ_ _ z=>False.elim z);refine wpAny_bind (wpAny_mono Nc (λ_ s₂ h₂=>wpAny_bind (wpAny_mono h₂ (λok s₃ h₃=>?_) λ_ _ z=>False.elim z)) λ_ _ z=>False.elim z)
   cases ok with
   | false=>exact wpAny_pure ⟨rfl,h₃⟩
   | true =>
     refine wpAny_bind (wpAny_mono h₃ (λx s₄ h₄=>?_) λ_ _ z=>False.elim z);refine wpAny_bind (wpAny_standAt ?_);rw [NV];refine wpAny_bind (wpAny_pure ?_);exact wpAny_bind (wpAny_mono h₄ (λy s₅ h₅=>wpAny_bind (wpAny_mono h₅ (λ_ s₆ h₆=>wpAny_pure ⟨rfl,h₆⟩) λ_ _ z=>False.elim z)) λ_ _ z=>False.elim z)
theorem fN {elt target iter g0 ifs scope pos it acc env}
 (h0:codeAny (model prog w) A (.compLoop (.ListComp elt [g0,⟨target,iter,ifs,0⟩] scope pos) 1 it acc env) R s)
 (h:wpAny (model prog w) A (pyIter it) (λTQ s'=>codeAny (model prog w) A (.compLoop (.ListComp elt [g0,⟨target,iter,ifs,0⟩] scope pos) 1 TQ acc env) R s')
  (notedBy (model prog w) A env λx s'=>R (.error x) s') s):
 codeAny (model prog w) A (.compStart (.ListComp elt [g0,⟨target,iter,ifs,0⟩] scope pos) 1 it acc env) R s:=by
 refine codeAny_of_tree ?_;show wpAny _ _ ((compStart (.ListComp elt [g0,⟨target,iter,ifs,0⟩] scope pos) 1 it acc env).onRaise (λx=>do noteFrame x env; standAt theWindowsPlace)) _ _ s;refine wpAny_notedAt ?_;unfold compStart;show wpAny _ _ (ask >>= _) _ _ s;refine wpAny_bind (wpAny_askSetting (wpAny_ite ?_))
 split
 ·first
   | exact wpAny_bind (wpAny_pure (wpAny_pure (And.intro rfl h0)))
   | exact wpAny_pure (And.intro rfl h0)
 ·first
   | exact wpAny_bind (wpAny_rule (wpAny_bind (wpAny_standAt (wpAny_bind (wpAny_mono h (λTQ s' h'=>wpAny_pure (And.intro rfl h')) λ_ _ x=>x)))))
   | (refine wpAny_bind (wpAny_rule ?_); show wpAny _ _ (standAt iter.pos >>= _) _ _ s; exact wpAny_bind (wpAny_standAt (wpAny_bind (wpAny_mono h (λTQ s' h'=>wpAny_pure (And.intro rfl h')) λ_ _ x=>x))))
end
section
variable {X:Cx}{tg iter elt JZ FU:Expr}{ifs Hz:List Expr}{scope osc:Scope}{pos:Pos}{N:List Str}{nl:Nat}{js:List Nat}
noncomputable def C4 (J:It)(g:TG)(tt:TT)(te:TE)(W:Nat->Nat->List V->St->Hp->Prop)(Fin:List V->St->Hp->Prop):Prop :=
 ∀ i m xs σ' H',W i m xs σ' H'->xs.length < sizeLine/\((J.stop i H'/\Fin xs σ' H') \/
   (J.go i H'/\∀ x H2,J.yld i H' x H2->g x σ' H2 λσ3 H3=>tt σ3 H3 λb H4 =>
    if b=true then te σ3 H4 λy H5=>∃ m',m' < m/\W (i + 1) m' (xs++[y]) σ3 H5 else ∃ m',m' < m/\W (i + 1) m' xs σ3 H4))
noncomputable def qS (J:It)(g:TG)(tt:TT)(wi1:TI)(g1:TG)(JA:TT)(te:TE)(W:Nat->Nat->List V->St->Hp->Prop)(Fin:List V->Hp->Prop):Prop :=
 ∀ i m xs σ' H',W i m xs σ' H'->xs.length < sizeLine/\((J.stop i H'/\Fin xs H') \/
   (J.go i H'/\∀ x H2,J.yld i H' x H2->g x σ' H2 λσ3 H3=>tt σ3 H3 λb H4 =>
    if b=true then wi1 σ3 H4 λJ1 H5=>∃ W1:Nat->Nat->List V->St->Hp->Prop,(∃ m1,W1 0 m1 xs σ3 H5)/\C4 J1 g1 JA te W1 λys σ6 H6=>∃ m',m' < m/\W (i + 1) m' ys σ6 H6
    else ∃ m',m' < m/\W (i + 1) m' xs σ3 H4))
theorem pD {pins:List (Addr × Obj)}{σ:St}{H:Hp}{s:Shared}{J:It}{it:Addr}{fp:List Addr}{tn:Nat->Heap->Prop}{g g1:TG}{tt JA:TT}{wi1:TI}{te:TE}{W:Nat->Nat->List V->St->Hp->Prop}{Fin:List V->Hp->Prop}
 {E:Value->Shared->Prop}{RR:Value->Addr->Result->Shared->Prop}
 (S:CompOk X N nl js osc scope)(hc:X.calm=true)(hg:∀ C fp s H,PG (cp X N scope C fp s H) tg g)(ht:∀ C fp s H,ze (cp X N scope C fp s H) ifs tt)(TR:∀ C fp s H,PI (cp X N scope C fp s H) JZ FU wi1)(TU:∀ C fp s H,PG (cp X N scope C fp s H) JZ g1)(Je:∀ C fp s H,ze (cp X N scope C fp s H) Hz JA)(he:∀ C fp s H,PE (cp X N scope C fp s H) elt te)
 (I:Inv X pins σ H s)(T:Turn X.prog X.w X.K tg J fp it tn)(st:tn 0 s.heap)(f:∀ b∈fp,cC X pins H b)(w0:∃ m,W 0 m [] (σC nl js σ) H)(hW:qS J g tt wi1 g1 JA te W Fin)(LH:∀ env x,foldedSetIterable FU env x=pure x)
 (Ss:∀ (D C:Addr)(H':Hp)(s':Shared)(xs:List V)(m:Str->Option Value),Inv X pins σ (upd H' D (.lst xs)) s'->H' D=none->s'.heap.Ns C m->cC X pins (upd H' D (.lst xs)) C->Fin xs H'->RR (.ref D) C (.ok .next) s'):
 wpAny (model X.prog X.w) X.A (newList []) (λacc s₃=>wpAny (model X.prog X.w) X.A (newFunctionEnv scope X.env.globals (dA scope.names X.env) [] X.env.qual none .none (some X.env)) (λHV s₄ =>
  codeAny (model X.prog X.w) X.A (.compStart (.ListComp elt [⟨tg,iter,ifs,0⟩,⟨JZ,FU,Hz,0⟩] scope pos) 0 (.ref it) acc { HV with scope:=relabel scope X.env }) (RR acc HV.locals) s₄) E s₃) E s:=by
 have Jo:∀ b∈fp,b < s.heap.objs.size:=λb hb=>by
  obtain ⟨o,e,_⟩:=T.obj 0 _ st b hb;exact Heap.lt_size e
 refine wpAny_newObj_type (wpAny_newFunctionEnv S.cell (by intro y hy; simp at hy) (λh₁ GU Ge=>?_) S.kind);dsimp only at GU Ge |-;generalize Lr:s.heap.push { cls:=.type "list",dict:=none,data:=.seq ([]:List Value).toArray }=H2 at GU Ge |-
 have hC:H2.objs.size=s.heap.objs.size + 1:=by rw [<-Lr,Heap.size_push]
 have IV:s.heap.objs.size≠H2.objs.size:=by rw [hC]; exact Nat.ne_of_lt (Nat.lt_succ_self _)
 have below:∀ b,b < s.heap.objs.size->b≠H2.objs.size/\b≠s.heap.objs.size:=λb hb=>⟨by rw [hC]; exact Nat.ne_of_lt (Nat.lt_succ_of_lt hb),Nat.ne_of_lt hb⟩;have old:∀ b o,s.heap.get? b=some o->h₁.get? b=some o:=λb o e=>Ge.extBut b o (below b (Heap.lt_size e)).1 (Heap.get?_push_of_some _ (Lr ▸ Heap.get?_push_of_some _ e));have Ls:h₁.get? s.heap.objs.size=some { cls:=.type "list",data:=.seq ([]:List Value).toArray 0 }:=Ge.extBut _ _ IV (Heap.get?_push_of_some _ (Lr ▸ Heap.get?_push_size _ rfl))
 have HW:s.heap.objs.size<=H2.objs.size:=by rw [hC]; exact Nat.le_succ _
 have F0:∀ y∈scope.names,y.2 = .free->∃ c,X.env.cells.lookup y.1=some c:=λy hy hf=>by
  have z:=S.free y hy hf;rw [<-S.out] at z;exact I.ok.has y.1 z
 have sub:∀ x c,(dA scope.names X.env).lookup x=some c->X.env.cells.lookup x=some c:=λx c e=>jF F0 e
 have Su:∀ x c,(dA scope.names X.env).lookup x=some c->c < s.heap.objs.size:=λx c e=>by
  obtain ⟨v,q⟩:=I.cell x c (sub x c e);exact q.lt
 have Lq:∀ b∈fp,b ∉ df X.stack:=λb hb z=>by
  rcases List.mem_cons.mp (I.stkSub b z) with q | q
  ·exact (f b hb).2.1 q
  ·exact (f b hb).2.2.1 q
 have MA:s.heap.objs.size ∉ df X.stack:=λz=>by
  rcases List.mem_cons.mp (I.stkSub _ z) with q | q
  ·exact absurd I.lt (by rw [<-q]; exact Nat.lt_irrefl _)
  ·exact I.nofs (Nat.le_refl _) q
 have Nd:s.heap.objs.size ∉ fp:=λz=>Nat.lt_irrefl _ (Jo _ z)
 have Lu:∀ {H':Hp}{ob:Obj},(∀ b∈fp,H' b=none)->∀ b∈fp,cC (cp X N scope H2.objs.size fp s H) [(s.heap.objs.size,ob)] H' b:=λ{H' ob} hn b hb =>
  ⟨hn b hb,(below b (Jo b hb)).1,Lq b hb,.inl hb,λx c e=>(f b hb).2.2.2.2.1 x c (sub x c e),λp hp z=>by
   have e:p=(s.heap.objs.size,ob):=by
    have:p∈[(s.heap.objs.size,ob)]:=hp;simpa using this
   subst e
   exact Nd (by rw [show s.heap.objs.size=b from z]; exact hb)⟩
 have Sv:∀ {H':Hp},H' s.heap.objs.size=none->cC (cp X N scope H2.objs.size fp s H) [] H' s.heap.objs.size:=λ{H'} hn =>
  ⟨hn,IV,MA,.inr (Nat.le_refl _),λx c e=>Nat.ne_of_lt (Su x c e),λp hp=>absurd (show p∈([]:List (Addr × Obj)) from hp) (by simp)⟩
 have Jp:∀ {σ':St}{H':Hp}{s':Shared}{ys:List Value}{k:Nat},Inv (cp X N scope H2.objs.size fp s H) [] σ' H' s'->H' s.heap.objs.size=none->s'.heap.get? s.heap.objs.size=some (ib ys k) →
  Inv (cp X N scope H2.objs.size fp s H) [(s.heap.objs.size,ib ys k)] σ' H' s':=λ{σ' H' s' ys k} I' hn hl=>I'.pins_of λp hp=>by
  have e:p=(s.heap.objs.size,ib ys k):=by simpa using hp
  subst e;exact ⟨hl,hn,IV,MA,λv z=>by cases z⟩
 have loop:∀ s₃:Shared,s₃={ s with heap:=h₁,toks:=s.toks + ([]:List (Str × Value)).length } →
  codeAny (model X.prog X.w) X.A (.compLoop (.ListComp elt [⟨tg,iter,ifs,0⟩,⟨JZ,FU,Hz,0⟩] scope pos) 0 (.ref it) (.ref s.heap.objs.size) (compEnvC scope (dA scope.names X.env) H2.objs.size X.env))
   (RR (.ref s.heap.objs.size) H2.objs.size) s₃:=by
  rintro s₃ rfl;obtain ⟨m0,w0⟩:=w0;have I0:Inv (cp X N scope H2.objs.size fp s H) [] (σC nl js σ) H { s with heap:=h₁,toks:=s.toks + ([]:List (Str × Value)).length }:=lH S I f Jo HW old GU
  refine mV (λn s'=>∃ i σ' H' xs ys k,Inv (cp X N scope H2.objs.size fp s H) [(s.heap.objs.size,ib ys k)] σ' H' s'/\tn i s'.heap/\(∀ b∈fp,H' b=none)/\aK xs ys/\W i n xs σ' H') (LH _) ?_ m0
   ⟨0,σC nl js σ,H,[],[],0,Jp I0 (I.hok.fresh (Nat.le_refl _)) Ls,T.keep _ _ _ st λb _ o e=>old b o e,λb hb=>(f b hb).1,.nil,w0⟩
  rintro n s' ⟨i,σ',H',xs,ys,k,I',FV,Nf,rv,w'⟩;obtain ⟨hz,hw⟩:=hW i n xs σ' H' w'
  rcases hw with ⟨stop,fin⟩ | ⟨go,step⟩
  ·refine wpAny_mono (T.done (cp X N scope H2.objs.size fp s H) rfl rfl rfl hc i _ s' σ' H' (λ_ _=>False) I' (Lu Nf) FV stop) (λr s1 ⟨hr,I1⟩=>?_) λ_ _ z=>z;subst hr;obtain ⟨p1,p2,_⟩:=I1.pin (s.heap.objs.size,ib ys k) (by show _∈([]:List (Addr × Obj))++[_]; simp);have u1:Un (df X.stack) fp H H' s.heap s1.heap:=I1.base
   have u2:Un (df X.stack) fp H (upd H' s.heap.objs.size (.lst xs)) s.heap s1.heap:=⟨u1.keep,u1.slot,λb o e n hx=>by rw [ao (Nat.ne_of_lt (Heap.lt_size e))]; exact u1.free b o e n hx,u1.there,
    λb zs e=>by rw [ao (au (u1.tups b zs e) p2)]; exact u1.tups b zs e,λb o zs e=>by rw [ao (au (u1.frzs b o zs e) p2)]; exact u1.frzs b o zs e,λb ps e=>by
     obtain ⟨mo,q⟩:=u1.tbls b ps e
     exact ⟨mo,by rw [ao (au q p2)]; exact q⟩⟩
   have hk:eG X.prog X.w (upd H' s.heap.objs.size (.lst xs)) s1.heap:=da I1.hok p2 ⟨Nat.le_of_lt hz,ys,k,rv,p1⟩;have I3:Inv X pins σ (upd H' s.heap.objs.size (.lst xs)) s1:=I.call' I1.os u2 hk I1.bare λb hb=>⟨(f b hb).2.2.2.1,(f b hb).2.1,(f b hb).2.2.2.2.1,(f b hb).2.2.2.2.2⟩;obtain ⟨mm,Sw,_⟩:=I1.loc
   have Sx:upd H' s.heap.objs.size (.lst xs) H2.objs.size=none:=by rw [ao (Ne.symm IV)]; exact I1.free
   exact Ss _ _ H' s1 xs mm I3 p2 Sw (I.fpOk HW Sx) fin
  ·refine wpAny_mono (T.item (cp X N scope H2.objs.size fp s H) rfl rfl rfl hc i _ s' σ' H' (λ_ _=>False) I' (Lu Nf) FV go) (λr s1 ⟨u,hr,h4⟩=>?_) λ_ _ z=>z;subst hr;refine wpAny_mono h4 (λ_ s2 ⟨x,Ng,I2,r2,y2,GS,Sy⟩=>?_) λ_ _ z=>z;have Sz:=I2.pinned (Lu Sy) (T.obj _ _ GS);refine wpAny_mono (hg _ _ _ _ _ s2 σ' Ng x u _ Sz r2 (step x Ng y2)) (λ_ s3 ⟨σ3,H3,I3,q3⟩=>?_) λ_ _ z=>z;refine wpAny_mono (ht _ _ _ _ _ s3 σ3 H3 _ I3 q3) (λok s4 ⟨H4,I4,q4⟩=>?_) λ_ _ z=>z
   have Ir:∀ {s5:Shared}{H5:Hp}{σ5:St}{Xe:List Value}{k5:Nat},Inv (cp X N scope H2.objs.size fp s H) ([(s.heap.objs.size,ib Xe k5)]++c7 fp s2.heap) σ5 H5 s5->tn (i + 1) s5.heap/\∀ b∈fp,H5 b=none:=λ{s5 H5 σ5 Xe k5} I5 =>
    ⟨T.keep _ _ _ GS λb hb o e=>(I5.pin (b,o) (List.mem_append_right _ (List.mem_append_right _ (cu hb e)))).1,λb hb=>by
     obtain ⟨o,e,d⟩:=T.obj _ _ GS b hb
     exact (I5.pin (b,o) (List.mem_append_right _ (List.mem_append_right _ (cu hb e)))).2.1⟩
   cases ok with
   | false =>
     rw [if_neg Bool.false_ne_true] at q4 |-;obtain ⟨m',hm,w4⟩:=q4;exact ⟨m',hm,i + 1,σ3,H4,xs,ys,k,I4.unpinned,(Ir I4).1,(Ir I4).2,rv,w4⟩
   | true =>
     rw [if_pos rfl] at q4 |-;refine wpAny_mono (TR _ _ _ _ _ s4 σ3 H4 _ I4 q4) (λv s5 h5=>wpAny_holding (wpAny_mono h5 (λMv s6 h6=>?_) λ_ _ z=>z)) λ_ _ z=>z;obtain ⟨Z6,MO,Xf,J1,H6,e,I6,T1,Xg,f6,W1,⟨m1,w1⟩,Z7⟩:=h6;subst e;have pl:∀ {s7:Shared}{H7:Hp}{σ7:St}{GQ:List Value}{k7:Nat},Inv (cp X N scope H2.objs.size fp s H) ([(s.heap.objs.size,ib GQ k7)]++c7 fp s2.heap) σ7 H7 s7->∀ p∈c7 fp s2.heap,s7.heap.get? p.1=some p.2/\H7 p.1=none/\p.1≠H2.objs.size/\p.1 ∉ df X.stack/\∀ v,p.2.data ≠ .cell v:=λI7 p hp=>I7.pin p (List.mem_append_right _ (List.mem_append_right _ hp))
     have TV:∀ {H7:Hp}{GQ:List Value}{k7:Nat},(∀ b∈MO,H7 b=none)->∀ b∈MO,cC (cp X N scope H2.objs.size fp s H) ([(s.heap.objs.size,ib GQ k7)]++c7 fp s2.heap) H7 b:=λ{H7 GQ k7} hn b hb=>by
      obtain ⟨g0,Nv,g2,g3,g4,g5⟩:=f6 b hb;refine ⟨hn b hb,Nv,g2,g3,g4,λp hp=>?_⟩
      rcases List.mem_append.mp (show p∈[(s.heap.objs.size,ib GQ k7)]++c7 fp s2.heap from hp) with z | z
      ·have e:p=(s.heap.objs.size,ib GQ k7):=by simpa using z
       subst e;exact g5 (s.heap.objs.size,ib ys k) (List.mem_append_right _ (List.mem_append_left _ (by simp)))
      ·exact g5 p (List.mem_append_right _ (List.mem_append_right _ z))
     refine wpAny_runOwn ?_;show codeAny _ X.A _ _ s6
     have J0:codeAny (model X.prog X.w) X.A (.compLoop (.ListComp elt [⟨tg,iter,ifs,0⟩,⟨JZ,FU,Hz,0⟩] scope pos) 1 (.ref Z6) (.ref s.heap.objs.size) (compEnvC scope (dA scope.names X.env) H2.objs.size X.env))
      (λr s'=>match r with
       | .ok f=>∃ m,m < n/\∃ i σ' H' xs ys k,Inv (cp X N scope H2.objs.size fp s H) [(s.heap.objs.size,ib ys k)] σ' H' s'/\tn i s'.heap/\(∀ b∈fp,H' b=none)/\aK xs ys/\W i m xs σ' H'
       | .error e=>cameBackBy (model X.prog X.w) X.A (compEnvC scope (dA scope.names X.env) H2.objs.size X.env) (λ_ _=>False) e s') s6:=by
      refine pW (λn' s'=>∃ j σ' H' Xh Xi k',Inv (cp X N scope H2.objs.size fp s H) ([(s.heap.objs.size,ib Xi k')]++c7 fp s2.heap) σ' H' s'/\Xf j s'.heap/\(∀ b∈MO,H' b=none)/\aK Xh Xi/\W1 j n' Xh σ' H') ?_ m1
       ⟨0,σ3,H6,xs,ys,k,I6,Xg,λb hb=>(f6 b hb).1,rv,w1⟩
      rintro n' s7 ⟨j,σ7,H7,RL,GQ,k7,I7,Xj,Xk,RM,w7⟩;obtain ⟨Z8,Z9⟩:=Z7 j n' RL σ7 H7 w7
      rcases Z9 with ⟨stop,m',hm,fin⟩ | ⟨go,step⟩
      ·refine wpAny_mono (T1.done (cp X N scope H2.objs.size fp s H) rfl rfl rfl hc j _ s7 σ7 H7 (λ_ _=>False) I7 (TV Xk) Xj stop) (λr s8 ⟨hr,I8⟩=>?_) λ_ _ z=>z;subst hr;have bk:=Ir I8;exact ⟨m',hm,i + 1,σ7,H7,RL,GQ,k7,I8.unpinned,bk.1,bk.2,RM,fin⟩
      ·refine wpAny_mono (T1.item (cp X N scope H2.objs.size fp s H) rfl rfl rfl hc j _ s7 σ7 H7 (λ_ _=>False) I7 (TV Xk) Xj go) (λr s8 ⟨u8,hr,h8⟩=>?_) λ_ _ z=>z;subst hr;refine wpAny_mono h8 (λ_ s9 ⟨x9,H9,I9,r9,y9,TY,fr9⟩=>?_) λ_ _ z=>z;have I9':=I9.pinned (TV fr9) (T1.obj _ _ TY);refine wpAny_mono (TU _ _ _ _ _ s9 σ7 H9 x9 u8 _ I9' r9 (step x9 H9 y9)) (λ_ sa ⟨σa,Ha,Ia,qa⟩=>?_) λ_ _ z=>z;refine wpAny_mono (Je _ _ _ _ _ sa σa Ha _ Ia qa) (λok sb ⟨Hb,Ib,qb⟩=>?_) λ_ _ z=>z
       have Iu:∀ {sc:Shared}{Hc:Hp},Inv (cp X N scope H2.objs.size fp s H) (([(s.heap.objs.size,ib GQ k7)]++c7 fp s2.heap)++c7 MO s9.heap) σa Hc sc->Xf (j + 1) sc.heap/\∀ b∈MO,Hc b=none:=λ{sc Hc} Ic =>
        ⟨T1.keep _ _ _ TY λb hb o e=>(Ic.pin (b,o) (List.mem_append_right _ (List.mem_append_right _ (cu hb e)))).1,λb hb=>by
         obtain ⟨o,e,d⟩:=T1.obj _ _ TY b hb
         exact (Ic.pin (b,o) (List.mem_append_right _ (List.mem_append_right _ (cu hb e)))).2.1⟩
       cases ok with
       | false =>
         rw [if_neg Bool.false_ne_true] at qb |-;obtain ⟨m',hm,wb⟩:=qb;exact ⟨m',hm,j + 1,σa,Hb,RL,GQ,k7,Ib.unpinned,(Iu Ib).1,(Iu Ib).2,RM,wb⟩
       | true =>
         rw [if_pos rfl] at qb |-;refine wpAny_mono (he _ _ _ _ _ sb σa Hb _ Ib qb) (λvc sc ⟨yc,Hc,Ic,rc,m',hm,wc⟩=>?_) λ_ _ z=>z;obtain ⟨stc,frc⟩:=Iu Ic;have Id:=Ic.unpinned;obtain ⟨p1,p2,_⟩:=Id.pin (s.heap.objs.size,ib GQ k7) (List.mem_append_right _ (List.mem_append_left _ (by simp)));have df1:s.heap.objs.size ∉ MO:=λhb=>(f6 _ hb).2.2.2.2.2 (s.heap.objs.size,ib ys k) (List.mem_append_right _ (List.mem_append_left _ (by simp))) rfl;refine append_at (its:=GQ.toArray) p1 (λh' JL hD=>?_) (by rw [List.size_toArray,<-RM.length]; exact Nat.le_of_lt Z8);have Jt:Inv (cp X N scope H2.objs.size fp s H) [] σa Hc { sc with heap:=h' }:=cA (Id.pins_of (pins':=[]) λp hp=>absurd hp (by simp)) (Sv p2) JL
         have ND:h'.get? s.heap.objs.size=some (ib (GQ++[vc]) (k7 + 1)):=by
          rw [hD];show some _=some (ib (GQ++[vc]) (k7 + 1));rw [ib,<-List.push_toArray]
         refine ⟨m',hm,j + 1,σa,Hc,RL++[yc],GQ++[vc],k7 + 1,Jt.pins_of λp hp=>?_,T1.keep _ _ _ stc λb hb o e=>(JL.2 b λz=>df1 (z ▸ hb)).trans e,frc,RM.append (.cons rc .nil),wc⟩
         rcases List.mem_append.mp hp with z | z
         ·have e:p=(s.heap.objs.size,ib (GQ++[vc]) (k7 + 1)):=by simpa using z
          subst e;exact ⟨ND,p2,IV,MA,λv z=>by cases z⟩
         ·obtain ⟨a1,a2,a3,a4,a5⟩:=pl Id p z;exact ⟨(JL.2 p.1 λe=>Nd (e ▸ (lN z).1)).trans a1,a2,a3,a4,a5⟩
     exact fN J0 (T1.self X.A 0 _ _ _ Xg J0)
 exact codeAny_compStart_list (loop _ rfl) (T.self X.A 0 _ _ _ (T.keep _ _ _ st λb _ o e=>old b o e) (loop _ rfl))
noncomputable def BM (wi:TI)(g:TG)(tt:TT)(wi1:TI)(g1:TG)(JA:TT)(te:TE)(nl:Nat)(js:List Nat):TE:=λσ H Q=>wi σ H λJ H1 =>
 ∃ W:Nat->Nat->List V->St->Hp->Prop,(∃ m,W 0 m [] (σC nl js σ) H1)/\qS J g tt wi1 g1 JA te W λxs H'=>∀ D,H' D=none->Q (.ref D) (upd H' D (.lst xs))
theorem wW {wi wi1:TI}{g g1:TG}{tt JA:TT}{te:TE}(S:CompOk X N nl js osc scope)(hc:X.calm=true)(hi:PI X tg iter wi)(hg:∀ C fp s H,PG (cp X N scope C fp s H) tg g)(ht:∀ C fp s H,ze (cp X N scope C fp s H) ifs tt)
 (TR:∀ C fp s H,PI (cp X N scope C fp s H) JZ FU wi1)(TU:∀ C fp s H,PG (cp X N scope C fp s H) JZ g1)(Je:∀ C fp s H,ze (cp X N scope C fp s H) Hz JA)
 (he:∀ C fp s H,PE (cp X N scope C fp s H) elt te)(hs:∀ x,foldedSetIterable iter X.env x=pure x:=by intro _; rfl)(LH:∀ env x,foldedSetIterable FU env x=pure x:=by intro _ _; rfl):
 PE X (.ListComp elt [⟨tg,iter,ifs,0⟩,⟨JZ,FU,Hz,0⟩] scope pos) (BM wi g tt wi1 g1 JA te nl js):=by
 intro pins s σ H Q I h;rw [eval_ListComp];refine wpAny_comprehension_free (use:=none) rfl hs (gy S I) S.kind S.names (bR (hi pins s σ H _ I h) λv s1 h1=>bR h1 λMv s2 h2=>?_);obtain ⟨it,fp,tn,J,H2,e,I2,T,GS,f2,W,w0,hW⟩:=h2;subst e;refine pD (RR:=λacc C=>compPost (model X.prog X.w) X.A X.xe none (EP X pins σ Q) acc C) S hc hg ht TR TU Je he I2 T GS f2 w0 hW LH ?_;intro D C H' s' xs m I3 hD hn fC fin;exact ⟨m,hn,λh' sb=>⟨.ref D,_,cA I3 fC sb,rfl,fin D hD⟩⟩
end
theorem xj {σ:St}{H:Hp}{A B:Hp->Prop}(h:A H):tYes σ H λb H4=>if b=true then A H4 else B H4:=h
theorem xH {J:It}{n:Nat}{at_:Nat->V->Prop}{tt:TT}{te:TE}{rest:St}{H:Hp}{F:List V->Hp->Prop}(Pv:Nat->List V->Hp->Prop)(h0:Pv 0 [] H)
 (hz:∀ i ys H',i<=n->Pv i ys H'->ys.length < sizeLine/\(i < n->J.go i H')/\(i=n->J.stop i H')/\∀ x H2,J.yld i H' x H2->H2=H'/\at_ i x)
 (hs:∀ i x ys H' (N:List V->Hp->Prop),i < n->at_ i x->Pv i ys H'->(∀ zs H5,Pv (i + 1) zs H5->N zs H5) →
  tt (some x :: rest) H' λb H4=>if b=true then te (some x :: rest) H4 λy H5=>N (ys++[y]) H5 else N ys H4)
 (hd:∀ ys H',Pv n ys H'->F ys H'):
 ∃ W:Nat->Nat->List V->St->Hp->Prop,(∃ m,W 0 m [] (none :: rest) H)/\lA J (bO 0) tt te W F:=by
 refine ⟨λi m ys σ H'=>m=n - i/\i<=n/\Pv i ys H'/\∃ o,σ=o :: rest,⟨n,by simp,Nat.zero_le _,h0,none,rfl⟩,?_⟩;rintro i m ys σ H' ⟨rfl,hi,p,o,rfl⟩;obtain ⟨z1,z2,z3,z4⟩:=hz i ys H' hi p;refine ⟨z1,?_⟩
 by_cases Fd:i < n
 ·refine .inr ⟨z2 Fd,λx H2 hy=>?_⟩;obtain ⟨rfl,hx⟩:=z4 x H2 hy;exact hs i x ys H2 (λzs H5=>∃ m',m' < n - i/\m'=n - (i + 1)/\i + 1<=n/\Pv (i + 1) zs H5/\∃ o',(some x :: rest:St)=o' :: rest) Fd hx p λzs H5 h=>⟨n - (i + 1),by omega,rfl,Fd,h,_,rfl⟩
 ·have:i=n:=by omega
  subst this;exact .inl ⟨z3 rfl,hd ys H' p⟩
theorem vH {lo:Int}{n:Nat}{tt:TT}{te:TE}{rest:St}{H:Hp}{F:List V->Hp->Prop}(Pv:Nat->List V->Hp->Prop)(h0:Pv 0 [] H)
 (hz:∀ i ys H',i<=n->Pv i ys H'->ys.length < sizeLine)
 (hs:∀ i ys H' (N:List V->Hp->Prop),i < n->Pv i ys H'->(∀ zs H5,Pv (i + 1) zs H5->N zs H5) →
  tt (some (.int (lo + i)):: rest) H' λb H4=>if b=true then te (some (.int (lo + i)):: rest) H4 λy H5=>N (ys++[y]) H5 else N ys H4)
 (hd:∀ ys H',Pv n ys H'->F ys H'):
 ∃ W:Nat->Nat->List V->St->Hp->Prop,(∃ m,W 0 m [] (none :: rest) H)/\lA (Bl lo n) (bO 0) tt te W F:=by
 refine xH (n:=n) (at_:=λi x=>x = .int (lo + i)) Pv h0 (λi ys H' hi p=>?_) (λi x ys H' N h1 h2=>by subst h2; exact hs i ys H' N h1) hd;exact ⟨hz i ys H' hi p,λh=>h,λh=>by show n<=i; omega,λx H2 hy=>hy⟩
theorem lV {K:PySem.W.Frag}{a:Addr}{xs:List V}{tt:TT}{te:TE}{rest:St}{H:Hp}{F:List V->Hp->Prop}(Pv:Nat->List V->Hp->Prop)(h0:Pv 0 [] H)
 (hz:∀ i ys H',i<=xs.length->Pv i ys H'->ys.length < sizeLine/\bu K H' a xs)
 (hs:∀ i x ys H',i < xs.length->xs[i]?=some x->Pv i ys H' →
  ∃ b u v,x = .ref b/\a9 K H' b [u,v]/\∀ (N:List V->Hp->Prop),(∀ zs H5,Pv (i + 1) zs H5->N zs H5)->tt (some u :: some v :: rest) H' λb H4=>if b=true then te (some u :: some v :: rest) H4 λy H5=>N (ys++[y]) H5 else N ys H4)
 (hd:∀ ys H',Pv xs.length ys H'->F ys H'):
 ∃ W:Nat->Nat->List V->St->Hp->Prop,(∃ m,W 0 m [] (none :: none :: rest) H)/\lA (As K a) (i6 K 2 (cq (bO 0) (cq (bO 1) gNil))) tt te W F:=by
 refine ⟨λi m ys σ H'=>m=xs.length - i/\i<=xs.length/\Pv i ys H'/\∃ o o2,σ=o :: o2 :: rest,⟨xs.length,by simp,Nat.zero_le _,h0,none,none,rfl⟩,?_⟩;rintro i m ys σ H' ⟨rfl,hi,p,o,o2,rfl⟩;obtain ⟨z1,z2⟩:=hz i ys H' hi p;refine ⟨z1,?_⟩
 by_cases Fd:i < xs.length
 ·refine .inr ⟨⟨xs,xs[i],z2,by simp [Fd]⟩,λx H2 hy=>?_⟩;obtain ⟨rfl,hx⟩:=hy;obtain ⟨b,u,v,rfl,hb,h⟩:=hs i x ys H2 Fd (hx xs z2) p;exact ⟨_,[u,v],rfl,hb,rfl,_,_,rfl,_,_,rfl,rfl,h (λzs H5=>∃ m',m' < xs.length - i/\m'=xs.length - (i + 1)/\i + 1<=xs.length/\Pv (i + 1) zs H5/\∃ o o2,(some u :: some v :: rest:St)=o :: o2 :: rest) λzs H5 h=>⟨xs.length - (i + 1),by omega,rfl,Fd,h,_,_,rfl⟩⟩
 ·have:i=xs.length:=by omega
  subst this;exact .inl ⟨⟨xs,z2,Nat.le_refl _⟩,hd ys H' p⟩
theorem BU {K:PySem.W.Frag}{a a1:Addr}{xs xs1:List V}{wi1:TI}{te:TE}{rest:St}{H:Hp}{F:List V->Hp->Prop}(Pv:Nat->List V->Hp->Prop)(Pw:Nat->V->V->Nat->List V->Hp->Prop)(h0:Pv 0 [] H)
 (hz:∀ i ys H',i<=xs.length->Pv i ys H'->ys.length < sizeLine/\bu K H' a xs)
 (hs:∀ i x ys H',i < xs.length->xs[i]?=some x->Pv i ys H'->∃ b u v,x = .ref b/\a9 K H' b [u,v]/\Pw i u v 0 ys H'/\∀ o2 o3 R,R (As K a1) H'->wi1 (some u :: some v :: o2 :: o3 :: rest) H' R)
 (IX:∀ i u v j ys H',i < xs.length->j<=xs1.length->Pw i u v j ys H'->ys.length < sizeLine/\bu K H' a1 xs1)
 (TJ:∀ i u v j x ys H',i < xs.length->j < xs1.length->xs1[j]?=some x->Pw i u v j ys H'->∃ b u' v',x = .ref b/\a9 K H' b [u',v'] /\
  ∀ (N:List V->Hp->Prop),(∀ zs H5,Pw i u v (j + 1) zs H5->N zs H5)->te (some u :: some v :: some u' :: some v' :: rest) H' λy H5=>N (ys++[y]) H5)
 (he1:∀ i u v ys H',i < xs.length->Pw i u v xs1.length ys H'->Pv (i + 1) ys H')
 (hd:∀ ys H',Pv xs.length ys H'->F ys H'):
 ∃ W:Nat->Nat->List V->St->Hp->Prop,(∃ m,W 0 m [] (none :: none :: none :: none :: rest) H)/\qS (As K a) (i6 K 2 (cq (bO 0) (cq (bO 1) gNil))) tYes wi1 (i6 K 2 (cq (bO 2) (cq (bO 3) gNil))) tYes te W F:=by
 refine ⟨λi m ys σ H'=>m=xs.length - i/\i<=xs.length/\Pv i ys H'/\∃ o o1 o2 o3,σ=o :: o1 :: o2 :: o3 :: rest,⟨xs.length,by simp,Nat.zero_le _,h0,none,none,none,none,rfl⟩,?_⟩;rintro i m ys σ H' ⟨rfl,hi,p,o,o1,o2,o3,rfl⟩;obtain ⟨z1,z2⟩:=hz i ys H' hi p;refine ⟨z1,?_⟩
 by_cases Fd:i < xs.length
 ·refine .inr ⟨⟨xs,xs[i],z2,by simp [Fd]⟩,λx H2 hy=>?_⟩;obtain ⟨rfl,hx⟩:=hy;obtain ⟨b,u,v,rfl,hb,pw,h⟩:=hs i x ys H2 Fd (hx xs z2) p;refine ⟨_,[u,v],rfl,hb,rfl,_,_,rfl,_,_,rfl,rfl,?_⟩;refine xj (h _ _ _ ⟨λj m ys σ H'=>m=xs1.length - j/\j<=xs1.length/\Pw i u v j ys H'/\∃ o2 o3,σ=some u :: some v :: o2 :: o3 :: rest,⟨xs1.length,by simp,Nat.zero_le _,pw,_,_,rfl⟩,?_⟩);rintro j m ys σ H' ⟨rfl,hj,p,o2,o3,rfl⟩;obtain ⟨z1,z2⟩:=IX i u v j ys H' Fd hj p;refine ⟨z1,?_⟩
  by_cases Ig:j < xs1.length
  ·refine .inr ⟨⟨xs1,xs1[j],z2,by simp [Ig]⟩,λx H2 hy=>?_⟩;obtain ⟨rfl,hx⟩:=hy;obtain ⟨b,u',v',rfl,hb,h⟩:=TJ i u v j x ys H2 Fd Ig (hx xs1 z2) p;refine ⟨_,[u',v'],rfl,hb,rfl,_,_,rfl,_,_,rfl,rfl,?_⟩;exact xj (h (λzs H5=>∃ m',m' < xs1.length - j/\m'=xs1.length - (j + 1)/\j + 1<=xs1.length/\Pw i u v (j + 1) zs H5/\∃ o2 o3,(some u :: some v :: some u' :: some v' :: rest:St)=some u :: some v :: o2 :: o3 :: rest) λzs H5 h=>⟨xs1.length - (j + 1),by omega,rfl,Ig,h,_,_,rfl⟩)
  ·have:j=xs1.length:=by omega
   subst this;exact .inl ⟨⟨xs1,z2,Nat.le_refl _⟩,xs.length - (i + 1),by omega,rfl,Fd,he1 i u v ys H' Fd p,_,_,_,_,rfl⟩
 ·have:i=xs.length:=by omega
  subst this;exact .inl ⟨⟨xs,z2,Nat.le_refl _⟩,hd ys H' p⟩
end L2
namespace K06
open PySem L2 PySem.W Nm Srt
noncomputable abbrev BJ:Stmt:=aU (aZ 26) 11
noncomputable def lC (C CF UN:Addr):Sp:=λvs H Q E=>∃ (s s':Addr)(p p':Int)(a b:List Tm),vs=[.ref s,.ref s']/\SumR C CF H s p a/\SumR C CF H s' p' b/\FP p/\a.length * b.length < 4000 /\
 (∀ t∈a,Gn p 4000 t.2/\DF t)/\(p'=p->(∀ t∈b,Gn p 4000 t.2/\DF t)/\Gth p (cG p a b)/\∀ H' u,aB H H'->SumR C CF H' u p (tg p (cG p a b))->Q (.ref u) H')/\(p'≠p->E (.ref UN) none H)
theorem AA:FnScope ["self","other","field"] ["self","other"] (aq BJ):=dX (by decide +kernel)
variable {P:Program}{w:World}{K:PySem.W.Frag}{mg:Str->Option Value}{base:Heap}
set_option maxHeartbeats 1000000 in
theorem ug {f fl fo ft fb C CF UN:Addr}{fd FK NI F2 JY:FuncData}(F:Fun K "times" "Sum.times" BJ f fd)(c:SumQ K mg C)(cF:FieldK K mg CF)(mU:mg "Unlike"=some (.ref UN))(qU:excIn K UN Bg p3=true)
 (TK:FnOk P w K mg base (aV P w) 2 fl FK ["self","thing"] (qZ C CF))(TL:L2.aA K FK ["self","thing"] [])(TM:L2.Meth K C "is_like" fl)
 (FTo:FnOk P w K mg base (aV P w) 1 fo NI ["one","other"] spTog)(bTo:L2.aA K NI ["one","other"] [])(mTo:mg "together"=some (.ref fo))(kTo:keepIn K (.ref fo)=true)
 (Gv:FnOk P w K mg base (aV P w) 4 ft F2 ["self","one","other"] (n9 CF fO))(Gw:L2.aA K F2 ["self","one","other"] [])(Gx:L2.Meth K CF "times" ft)
 (NP:FnOk P w K mg base (aV P w) 8 fb JY ["field","terms"] (jh C CF))(NQ:L2.aA K JY ["field","terms"] [])(NR:mg "built"=some (.ref fb))(NT:keepIn K (.ref fb)=true):
 FnOk P w K mg base (aV P w) 9 f fd ["self","other"] (lC C CF UN):=by
 refine F.okE AA (λvs H Q E h=>?_) (λFb A outer s H vs Q E hr h=>?_)
 ·obtain ⟨s,s',p,p',a,b,rfl,_⟩:=h;rfl
 ·obtain ⟨s0,s1,p,p',a,b,rfl,S,S1,hp,hl,ga,q1,q2⟩:=h;have Ip:Room 8 _:=hr;have GP:Room 4 _:=Ip.mono (by decide);have FQ:Room 2 _:=Ip.mono (by decide);have FF:Room 1 _:=Ip.mono (by decide)
  refine ⟨_,(ak (bg (bU (b9 (aX (pv 0) c.c.cl TM TK FQ TL .nil ae (@ai _ _ _ _ _ (pv 1) af rfl)))) (ar (gP PySem.F.excBase_ValueError qU rfl eV (by rfl) mU (@ai _ _ _ _ _ cY af rfl))) aD)
   (ak (@aY _ _ 2 _ _ _ _ AA.nd rfl (Or.inr rfl) (bK (pv 0) rfl) rfl (Or.inl rfl))
   (ar (az (ax NP Ip (by rfl) NR NT NQ .nil ae (@ai _ _ _ _ _ (pv 2) (@ai _ _ _ _ _ (wW (wi1:=AK K (C5 K (gH 4) "its_terms")) (g:=i6 K 2 (cq (bO 0) (cq (bO 1) gNil))) (g1:=i6 K 2 (cq (bO 2) (cq (bO 3) gNil))) (N:=["product","number","more","factor","other","field"]) (nl:=4) (js:=[1,2]) (osc:=aq BJ) ⟨rfl,rfl,by decide +kernel,by decide +kernel,by decide +kernel,rfl,(.cons ⟨rfl,by decide +kernel⟩ (.cons ⟨rfl,by decide +kernel⟩ .nil)),by decide +kernel⟩ rfl
    (dF (bK (pv 0) rfl))
    (λCq fq sq Hq=>(cZ (X:=cp _ ["product","number","more","factor","other","field"] _ Cq fq sq Hq) rfl (aE (aG (X:=cp _ ["product","number","more","factor","other","field"] _ Cq fq sq Hq) (i:=0) (by show (["product","number","more","factor","other","field"]:List Str).Nodup; decide +kernel) rfl (Or.inl rfl) (Or.inr rfl)) (aE (aG (X:=cp _ ["product","number","more","factor","other","field"] _ Cq fq sq Hq) (i:=1) (by show (["product","number","more","factor","other","field"]:List Str).Nodup; decide +kernel) rfl (Or.inl rfl) (Or.inr rfl)) cj))))
    (λCq fq sq Hq=>d6)
    (λCq fq sq Hq=>(dF (X:=cp _ ["product","number","more","factor","other","field"] _ Cq fq sq Hq) (bK (X:=cp _ ["product","number","more","factor","other","field"] _ Cq fq sq Hq) (pv (X:=cp _ ["product","number","more","factor","other","field"] _ Cq fq sq Hq) 4) rfl)))
    (λCq fq sq Hq=>(cZ (X:=cp _ ["product","number","more","factor","other","field"] _ Cq fq sq Hq) rfl (aE (aG (X:=cp _ ["product","number","more","factor","other","field"] _ Cq fq sq Hq) (i:=2) (by show (["product","number","more","factor","other","field"]:List Str).Nodup; decide +kernel) rfl (Or.inl rfl) (Or.inr rfl)) (aE (aG (X:=cp _ ["product","number","more","factor","other","field"] _ Cq fq sq Hq) (i:=3) (by show (["product","number","more","factor","other","field"]:List Str).Nodup; decide +kernel) rfl (Or.inl rfl) (Or.inr rfl)) cj))))
    (λCq fq sq Hq=>d6)
    (λCq fq sq Hq=>(@bV _ _ _ _ _ (@ai _ _ _ _ _ (ax FTo FF (by rfl) mTo kTo bTo .nil ae (@ai _ _ _ _ _ (pv 0) (@ai _ _ _ _ _ (pv 2) af rfl) rfl)) (@ai _ _ _ _ _ (aX (pv 5) cF.cl Gx Gv GP Gw .nil ae (@ai _ _ _ _ _ (pv 1) (@ai _ _ _ _ _ (pv 3) af rfl) rfl)) af rfl) rfl)))) af rfl) rfl)))))),?_⟩
  obtain ⟨dx,MM,Fg,Dd,zs,h1,h2,h3,h4⟩:=S.ex;obtain ⟨Jz,LJ,Hx,MI,NM,g1,g2,g3,g4⟩:=S1.ex;refine ⟨_,rfl,s0,dx,_,rfl,h1,rfl,_,rfl,s0,s1,p,p',a,b,rfl,S,S1,_,rfl,?_⟩
  by_cases e:p'=p
  ·rw [decide_eq_true e];obtain ⟨gb,G,q1⟩:=q1 e;refine bF ⟨_,rfl,s0,C,dx,_,_,rfl,h1,c.c.cl,c.c.nF,rfl,?_⟩;have za:=h4.length;have zb:=g4.length;refine ⟨_,rfl,_,rfl,s0,C,dx,_,_,rfl,h1,c.c.cl,c.c.nT,rfl,Dd,rfl,⟨_,bu.of h3⟩,?_⟩
   refine BU (xs:=zs) (xs1:=NM) (a1:=MI) (λi us H'=>aB H H'/\aH H' us (cG p (a.take i) b)) (λi u v j us H'=>aB H H'/\∃ x pr nu,a[i]?=some x/\u = .ref pr/\v = .ref nu/\H pr=some (.tup (x.1.map V.int))/\H nu=some (bD x.2.1 x.2.2)/\aH H' us (cG p (a.take i) b++(b.take j).map λy=>(gM (x.1++y.1),cH p x.2 y.2)))
    ⟨aB.refl _,.nil⟩ (λi us H' hi h=>?_) (λi v us H' hi NX h=>?_) (λi u v j us H' hi hj h=>?_) (λi u v j y us H' hi hj hy h=>?_) (λi u v us H' hi h=>?_) (λus H' h=>?_)
   ·refine ⟨?_,bu.of (h.1 _ _ h3)⟩;rw [h.2.length,kq,List.length_take];exact Nat.lt_of_le_of_lt (Nat.mul_le_mul_right _ (Nat.min_le_right _ _)) (Nat.lt_of_lt_of_le hl (by decide))
   ·obtain ⟨sH,hu⟩:=h;obtain ⟨x,ex,at_,pr,nu,rfl,GC,FA,Fx⟩:=bH h4 NX;refine ⟨at_,.ref pr,.ref nu,rfl,a9.of (sH _ _ GC),⟨sH,x,pr,nu,ex,rfl,rfl,FA,Fx,by simpa using hu⟩,λo2 o3 R hR=>?_⟩;exact ⟨_,rfl,s1,C,Jz,_,_,rfl,sH _ _ g1,c.c.cl,c.c.nT,rfl,MI,rfl,⟨_,bu.of (sH _ _ g3)⟩,hR⟩
   ·obtain ⟨sH,x,pr,nu,ex,rfl,rfl,FA,Fx,hu⟩:=h;refine ⟨?_,bu.of (sH _ _ g3)⟩;rw [hu.length,List.length_append,kq,List.length_map,List.length_take,List.length_take]
    have hi:i < a.length:=by omega
    have h1:min i a.length=i:=by omega
    have h2:min j b.length=j:=by omega
    rw [h1,h2];have h3:(i + 1) * b.length<=a.length * b.length:=Nat.mul_le_mul_right _ (by omega);rw [Nat.succ_mul] at h3;exact Nat.lt_of_lt_of_le (show _ < 4000 by omega) (by decide)
   ·obtain ⟨sH,x,pr,nu,ex,rfl,rfl,FA,Fx,hu⟩:=h;obtain ⟨z,ez,at2,TN,LO,rfl,LP,LQ,Iq⟩:=bH g4 hy;have gx:=ga x (List.mem_of_getElem? ex);have gz:=gb z (List.mem_of_getElem? ez)
    have LR:b.take (j + 1)=b.take j++[z]:=by rw [List.take_add_one,ez]; rfl
    refine ⟨at2,.ref TN,.ref LO,rfl,a9.of (sH _ _ LP),λN k=>?_⟩;refine ⟨_,rfl,_,rfl,pr,TN,x.1,z.1,rfl,sH _ _ FA,sH _ _ LQ,gx.2.1,gz.2.1,(by have:=gx.2.2; have:=gz.2.2; omega),λcc H3 s3 ec=>?_⟩;have Gd:=sH.trans s3;refine ⟨_,rfl,MM,Fg,_,rfl,Gd _ _ h2,rfl,_,rfl,_,rfl,MM,Fg,nu,LO,p,x.2.1,x.2.2,z.2.1,z.2.2,rfl,Gd _ _ h2,hp,Gd _ _ Fx,Gd _ _ Iq,gx.1.2.1,gx.1.2.2,gz.1.2.1,gz.1.2.2,gx.1.ne,gz.1.ne,λa1 Ho=>?_⟩;have r1:=av (o:=bD (cH p x.2 z.2).1 (cH p x.2 z.2).2) Ho;have e1:upd H3 a1 (bD (cH p x.2 z.2).1 (cH p x.2 z.2).2) a1=some (bD (cH p x.2 z.2).1 (cH p x.2 z.2).2):=ah;change tNil _ (upd H3 a1 (bD (cH p x.2 z.2).1 (cH p x.2 z.2).2)) _;generalize upd H3 a1 (bD (cH p x.2 z.2).1 (cH p x.2 z.2).2)=H4 at r1 e1 |-;refine ⟨kZ,λtu Hy=>?_⟩;have r2:=av (o:=.tup [.ref cc,.ref a1]) Hy;have Iv:=r1.trans r2;refine k _ _ ⟨Gd.trans Iv,x,pr,nu,ex,rfl,rfl,FA,Fx,?_⟩;rw [LR,List.map_append,<-List.append_assoc];exact Paired.snoc (aH.keep hu (ay.of (s3.trans Iv))) ⟨tu,cc,a1,rfl,ah,Iv _ _ ec,r2 _ _ e1⟩
   ·obtain ⟨sH,x,pr,nu,ex,rfl,rfl,FA,Fx,hu⟩:=h
    have Gh:a.take (i + 1)=a.take i++[x]:=by rw [List.take_add_one,ex]; rfl
    refine ⟨sH,?_⟩;rw [Gh,lz];rw [zb,List.take_length] at hu;exact hu
   ·obtain ⟨sH,hu⟩:=h;rw [za,List.take_length] at hu;intro l hl;have r1:=av (o:=.lst us) hl;exact ⟨MM,Fg,l,p,_,_,rfl,r1 _ _ (sH _ _ h2),hp,ah,aH.keep hu (ay.of r1),G,λH2 u s2 TZ=>q1 _ u ((sH.trans r1).trans s2) TZ⟩
  ·rw [decide_eq_false e];exact cb ⟨by decide,q2 e⟩
noncomputable abbrev Cm:Stmt:=aU (aZ 26) 12
noncomputable def lu (C CF NN:Addr):Sp:=λvs H Q E=>∃ (s:Addr)(p:Int)(a:List Tm)(x:V)(o:Option (V × V)),vs=[.ref s,x]/\SumR C CF H s p a/\FP p/\a.length < 4000/\(∀ t∈a,Gn p 4000 t.2)/\TX H x o /\
 (∀ t b y,x = .ref y->H y=some (bD t b)->isN p o=true->B 4000 t/\B 4000 b/\Num p t b/\Gth p (fA p (t,b) a)/\∀ H' u,aB H H'->SumR C CF H' u p (tg p (fA p (t,b) a))->Q (.ref u) H')/\(isN p o=true->∃ y t b,x = .ref y/\H y=some (bD t b))/\(isN p o=false->E (.ref NN) none H)
theorem AG:FnScope ["self","number","field"] ["self","number"] (aq Cm):=dX (by decide +kernel)
set_option maxHeartbeats 1000000 in
theorem uh {f fn ft fb C CF NN:Addr}{fd NY F2 JY:FuncData}(F:Fun K "scaled" "Sum.scaled" Cm f fd)(c:SumQ K mg C)(cF:FieldK K mg CF)(mN:mg "NoNumber"=some (.ref NN))(qN:excIn K NN Bg p3=true)
 (T4:FnOk P w K mg base (aV P w) 2 fn NY ["self","thing"] (gJ CF))(T5:L2.aA K NY ["self","thing"] [])(T6:L2.Meth K CF "is_number" fn)
 (Gv:FnOk P w K mg base (aV P w) 4 ft F2 ["self","one","other"] (n9 CF fO))(Gw:L2.aA K F2 ["self","one","other"] [])(Gx:L2.Meth K CF "times" ft)
 (NP:FnOk P w K mg base (aV P w) 8 fb JY ["field","terms"] (jh C CF))(NQ:L2.aA K JY ["field","terms"] [])(NR:mg "built"=some (.ref fb))(NT:keepIn K (.ref fb)=true):
 FnOk P w K mg base (aV P w) 9 f fd ["self","number"] (lu C CF NN):=by
 refine F.okE AG (λvs H Q E h=>?_) (λFb A outer s H vs Q E hr h=>?_)
 ·obtain ⟨s,p,a,x,o,rfl,_⟩:=h;rfl
 ·obtain ⟨s0,p,a,x,o,rfl,S,hp,al,ag,tx,q1,q2,q3⟩:=h;have Ip:Room 8 _:=hr;have GP:Room 4 _:=Ip.mono (by decide);have FQ:Room 2 _:=Ip.mono (by decide)
  refine ⟨_,(ak (@aY _ _ 2 _ _ _ _ AG.nd rfl (Or.inr rfl) (bK (pv 0) rfl) rfl (Or.inl rfl))
   (ak (bg (bU (b9 (aX (pv 2) cF.cl T6 T4 FQ T5 .nil ae (@ai _ _ _ _ _ (pv 1) af rfl)))) (ar (gP PySem.F.excBase_ValueError qN rfl eV (by rfl) mN (@ai _ _ _ _ _ cY af rfl))) aD)
   (ar (az (ax NP Ip (by rfl) NR NT NQ .nil ae (@ai _ _ _ _ _ (pv 2) (@ai _ _ _ _ _ (eX (g:=i6 K 2 (cq (bO 0) (cq (bO 1) gNil))) (N:=["product","factor","number","field"]) (nl:=2) (js:=[1,2]) (osc:=aq Cm) ⟨rfl,rfl,by decide +kernel,by decide +kernel,by decide +kernel,rfl,(.cons ⟨rfl,by decide +kernel⟩ (.cons ⟨rfl,by decide +kernel⟩ .nil)),by decide +kernel⟩ rfl
    (dF (bK (pv 0) rfl))
    (λCq fq sq Hq=>(cZ (X:=cp _ ["product","factor","number","field"] _ Cq fq sq Hq) rfl (aE (aG (X:=cp _ ["product","factor","number","field"] _ Cq fq sq Hq) (i:=0) (by show (["product","factor","number","field"]:List Str).Nodup; decide +kernel) rfl (Or.inl rfl) (Or.inr rfl)) (aE (aG (X:=cp _ ["product","factor","number","field"] _ Cq fq sq Hq) (i:=1) (by show (["product","factor","number","field"]:List Str).Nodup; decide +kernel) rfl (Or.inl rfl) (Or.inr rfl)) cj))))
    (λCq fq sq Hq=>d6)
    (λCq fq sq Hq=>(@bV _ _ _ _ _ (@ai _ _ _ _ _ (pv 0) (@ai _ _ _ _ _ (aX (pv 3) cF.cl Gx Gv GP Gw .nil ae (@ai _ _ _ _ _ (pv 1) (@ai _ _ _ _ _ (pv 2) af rfl) rfl)) af rfl) rfl)))) af rfl) rfl)))))),?_⟩
  obtain ⟨dx,fl,Fg,Dd,zs,h1,h2,h3,h4⟩:=S.ex;refine ⟨_,rfl,s0,C,dx,_,_,rfl,h1,c.c.cl,c.c.nF,rfl,?_⟩;refine ⟨_,rfl,fl,Fg,_,rfl,h2,rfl,_,rfl,fl,Fg,p,x,o,rfl,h2,hp,tx,_,rfl,?_⟩
  cases hn:isN p o with
  | false=>exact cb ⟨by decide,q3 hn⟩
  | true =>
    obtain ⟨y,t,b,rfl,hy⟩:=q2 hn;obtain ⟨bt,bb,nm,G,q⟩:=q1 t b y rfl hy hn;refine bF ?_;have zl:=h4.length;refine ⟨_,rfl,_,rfl,s0,C,dx,_,_,rfl,h1,c.c.cl,c.c.nT,rfl,Dd,rfl,⟨_,bu.of h3⟩,?_⟩;refine lV (xs:=zs) (λi us H'=>aB H H'/\aH H' us (fA p (t,b) (a.take i))) ⟨aB.refl _,.nil⟩ (λi us H' hi h=>?_) (λi v us H' hi NX h=>?_) (λus H' h=>?_)
    ·refine ⟨?_,bu.of (h.1 _ _ h3)⟩;rw [h.2.length];unfold fA;rw [List.length_map,List.length_take];exact Nat.lt_of_le_of_lt (show _<=4000 by omega) (by decide)
    ·obtain ⟨sH,hu⟩:=h;obtain ⟨u,eu,at_,pr,nu,rfl,GC,FA,Fx⟩:=bH h4 NX;have gu:=ag u (List.mem_of_getElem? eu)
     have Gh:a.take (i + 1)=a.take i++[u]:=by rw [List.take_add_one,eu]; rfl
     refine ⟨at_,.ref pr,.ref nu,rfl,a9.of (sH _ _ GC),λN k=>?_⟩;refine xj ⟨_,rfl,_,rfl,fl,Fg,_,rfl,sH _ _ h2,rfl,_,rfl,_,rfl,fl,Fg,nu,y,p,u.2.1,u.2.2,t,b,rfl,sH _ _ h2,hp,sH _ _ Fx,sH _ _ hy,gu.2.1,gu.2.2,bt,bb,gu.ne,(by have:=nm.pos; omega),λa1 Ho=>?_⟩;have r1:=av (o:=bD (cH p u.2 (t,b)).1 (cH p u.2 (t,b)).2) Ho;have e1:upd H' a1 (bD (cH p u.2 (t,b)).1 (cH p u.2 (t,b)).2) a1=some (bD (cH p u.2 (t,b)).1 (cH p u.2 (t,b)).2):=ah;change tNil _ (upd H' a1 (bD (cH p u.2 (t,b)).1 (cH p u.2 (t,b)).2)) _;generalize upd H' a1 (bD (cH p u.2 (t,b)).1 (cH p u.2 (t,b)).2)=H1 at r1 e1 |-;refine ⟨kZ,λtu Hy=>?_⟩;have r2:=av (o:=.tup [.ref pr,.ref a1]) Hy;have Iv:=r1.trans r2;refine k _ _ ⟨sH.trans Iv,?_⟩;rw [Gh];unfold fA;rw [List.map_append];exact Paired.snoc (aH.keep hu (ay.of Iv)) ⟨tu,pr,a1,rfl,ah,Iv _ _ (sH _ _ FA),r2 _ _ e1⟩
    obtain ⟨sH,hu⟩:=h;rw [zl,List.take_length] at hu;intro l hl;have r1:=av (o:=.lst us) hl;exact ⟨fl,Fg,l,p,_,_,rfl,r1 _ _ (sH _ _ h2),hp,ah,aH.keep hu (ay.of r1),G,λH2 u s2 TZ=>q _ u ((sH.trans r1).trans s2) TZ⟩
noncomputable abbrev EO:Stmt:=(aZ 51)
noncomputable def BB (C CF:Addr):Sp:=λvs H Q _=>∃ (s l:Addr)(p:Int)(a:List Tm)(ys:List V),vs=[.ref s,.int p,.ref l]/\SumR C CF H s p a/\H l=some (.lst ys)/\aH H ys a/\∀ H',aB H H'->Q (.bl true) H'
theorem Ey:FnScope ["_law_one","_law_prime_here","_law_due"] ["_law_one","_law_prime_here","_law_due"] (aq EO):=dX (by decide +kernel)
theorem yk {f ff ft fp C CF:Addr}{fd Xl F2 Hm:FuncData}(F:Fun K "_law_is_sum" "_law_is_sum" EO f fd)(c:SumQ K mg C)(cF:FieldK K mg CF)(E8:mg "isinstance"=none)
 (FSf:FnOk P w K mg base (aV P w) 1 ff Xl ["self"] (oW C CF))(bSf:L2.aA K Xl ["self"] [])(mSf:L2.Meth K C "field" ff)
 (T7:FnOk P w K mg base (aV P w) 1 ft F2 ["self"] (jT C CF))(T8:L2.aA K F2 ["self"] [])(T9:L2.Meth K C "terms" ft)
 (FFp:FnOk P w K mg base (aV P w) 1 fp Hm ["self"] (rF CF))(bFp:L2.aA K Hm ["self"] [])(mFp:L2.Meth K CF "prime" fp):
 FnOk P w K mg base (aV P w) 2 f fd ["_law_one","_law_prime_here","_law_due"] (BB C CF):=by
 refine F.okN Ey (λvs H Q E h=>?_) (λFb A outer s H vs Q E hr h=>?_)
 ·obtain ⟨s,l,p,a,ys,rfl,_⟩:=h;rfl
 ·obtain ⟨s0,l,p,a,ys,rfl,S,hl,ht,q⟩:=h;have FF:Room 1 _:=hr;refine ⟨_,(ar (az (cE (aF aR (by rfl) E8 (by rfl) (@ai _ _ _ _ _ (pv 0) (@ai _ _ _ _ _ (cL (by rfl) c.c.mgC (show aC (.ref C) (.ref C) from rfl)) af rfl) rfl)) (cE (@bZ _ _ _ _ _ _ _ _ d8 (gR (gR (pv 0) c.c.cl mSf FSf FF bSf .nil ae) cF.cl mFp FFp FF bFp .nil ae) (pv 1) (aI _)) (dC (@bZ _ _ _ _ _ _ _ _ (qk FF) (gR (pv 0) c.c.cl T9 T7 FF T8 .nil ae) (pv 2) (aI _))))))),?_⟩;obtain ⟨dx,fl,Fg,Dd,zs,h1,h2,h3,h4⟩:=S.ex;refine ⟨_,rfl,.ref s0,.ref C,_,_,_,rfl,rfl,c.ty h1,c.is,_,rfl,cb ?_⟩;refine ⟨_,rfl,s0,dx,_,rfl,h1,rfl,s0,dx,fl,Dd,rfl,h1,?_⟩;refine ⟨fl,Fg,_,rfl,h2,rfl,fl,Fg,p,rfl,h2,_,rfl,rfl,_,rfl,?_⟩;rw [decide_eq_true rfl];refine cb ⟨_,rfl,s0,dx,_,rfl,h1,rfl,s0,dx,fl,Dd,zs,rfl,h1,h3,λl2 GO=>?_⟩;have s2:=av (o:=.lst zs) GO;refine ⟨_,rfl,_,_,eK ah (aH.keep h4 (ay.of s2)),eK (s2 _ _ hl) (aH.keep ht (ay.of s2)),nR _,?_⟩;rw [dS];exact q _ s2
noncomputable abbrev BN:Stmt:=(aZ 53)
theorem uC {H H':Hp}{s dx:Addr}{o u:HO}(h1:H s=none)(h2:H dx=none)(ne:dx≠s)(k:SameBut s (upd (upd H dx o) s u) H'):aB H H':=λb v e=>by
 have b1:b≠s:=au e h1;have b2:b≠dx:=au e h2;exact k b v (by rw [ao b1,ao b2]; exact e) b1
theorem dO {C CF fl Fg s dx l:Addr}{p:Int}{H:Hp}{ys:List V}{ts:List Tm}{Q:Hp->Prop}{E:XK}(hs:H s=none)(ML:H dx=none)(ne:dx≠s)(hf:H fl=some (.ins CF Fg (eI p)))(hp:FP p)(hl:H l=some (.lst ys))(ht:aH H ys ts)(G:Gth p ts)(hP:∀ t∈ts,AD t.1)
 (q:∀ H',aB H H'->SumR C CF H' s p (tg p ts)->Q H'):
 gY C CF [.ref s,.ref fl,.ref l] (upd (upd H dx (.own s)) s (.ins C dx [])) (λv H2=>v = .non/\Q H2) E:=by
 have hS:aB H (upd (upd H dx (.own s)) s (.ins C dx [])):=(av ML).trans (av (by rw [ao (Ne.symm ne)]; exact hs));refine ⟨s,dx,fl,Fg,p,_,ts,rfl,ah,hS _ _ hf,hp,.inr ⟨l,ys,rfl,hS _ _ hl,aH.keep ht (ay.of hS)⟩,G,hP,λH' D zs k _ h1 h2 h3=>?_⟩;have sm:=uC hs ML ne k;exact ⟨rfl,q H' sm ⟨dx,fl,Fg,D,zs,h1,sm _ _ hf,h2,h3⟩⟩
noncomputable def Az (CF:Addr):Sp:=λvs H Q _=>∃ (fl Fg l nu:Addr)(p t b:Int)(ys:List V)(a:List Tm),vs=[.ref fl,.int p,.ref l,.ref nu]/\H fl=some (.ins CF Fg (eI p))/\FP p/\H l=some (.lst ys)/\aH H ys a/\Gth p a/\(∀ t∈a,AD t.1) /\
 H nu=some (bD t b)/\Gn p 4000 (t,b)/\(∀ t∈tg p a,Gn p 4000 t.2)/\(tg p a).length < 4000/\Gth p (fA p (t,b) a)/\Gth p (fA p (t,b) (tg p a))/\∀ H',aB H H'->Q (.bl true) H'
theorem Ay:FnScope ["_law_field","_law_prime_here","_law_terms_here","_law_number_here","_law_due"] ["_law_field","_law_prime_here","_law_terms_here","_law_number_here"] (aq BN):=dX (by decide +kernel)
set_option maxHeartbeats 1000000 in
theorem p7 {f fm fg fi fI fs C CF NN:Addr}{fd MN Gq NG Gi Jw:FuncData}(F:Fun K "_law_scaled" "_law_scaled" BN f fd)(c:SumQ K mg C)
 (FM:FnOk P w K mg base (aV P w) 3 fm MN ["_law_prime_here","_law_one","_law_other"] (jQ fO))(bM:L2.aA K MN ["_law_prime_here","_law_one","_law_other"] [])(mM:mg "_law_times"=some (.ref fm))(kM:keepIn K (.ref fm)=true)
 (FG:FnOk P w K mg base (aV P w) 4 fg Gq ["_law_prime_here","_law_terms_here"] spLGath)(bG:L2.aA K Gq ["_law_prime_here","_law_terms_here"] [])(mG:mg "_law_gather"=some (.ref fg))(kG:keepIn K (.ref fg)=true)
 (FI':FnOk P w K mg base (aV P w) 2 fi NG ["_law_one","_law_prime_here","_law_due"] (BB C CF))(bI':L2.aA K NG ["_law_one","_law_prime_here","_law_due"] [])(mI:mg "_law_is_sum"=some (.ref fi))(kI:keepIn K (.ref fi)=true)
 (M:Mk K C fI)(FI:FnOk P w K mg base (aV P w) 6 fI Gi ["self","field","terms"] (gY C CF))(bI:L2.aA K Gi ["self","field","terms"] [])
 (Ua:FnOk P w K mg base (aV P w) 9 fs Jw ["self","number"] (lu C CF NN))(Ub:L2.aA K Jw ["self","number"] [])(Uc:L2.Meth K C "scaled" fs):
 FnOk P w K mg base (aV P w) 10 f fd ["_law_field","_law_prime_here","_law_terms_here","_law_number_here"] (Az CF):=by
 refine F.okN Ay (λvs H Q E h=>?_) (λFb A outer s H vs Q E hr h=>?_)
 ·obtain ⟨fl,Fg,l,nu,p,t,b,ys,a,rfl,_⟩:=h;rfl
 ·obtain ⟨fl,Fg,l,nu,p,t,b,ys,a,rfl,hf,hp,hl,ht,Ga,hP,Fx,gn,gtg,ltg,G1,G2,q⟩:=h;have FD:Room 9 _:=hr;have Jh:Room 7 _:=FD.mono (by decide);have GP:Room 4 _:=FD.mono (by decide);have Gg:Room 3 _:=FD.mono (by decide);have FQ:Room 2 _:=FD.mono (by decide)
  refine ⟨_,(ak (@aY _ _ 4 _ _ _ _ Ay.nd rfl (Or.inl rfl) (ax FG GP (by rfl) mG kG bG .nil ae (@ai _ _ _ _ _ (pv 1) (@ai _ _ _ _ _ (eX (g:=i6 K 2 (cq (bO 0) (cq (bO 1) gNil))) (N:=["_law_product_here","_law_one","_law_prime_here","_law_number_here"]) (nl:=2) (js:=[1,3]) (osc:=aq BN) ⟨rfl,rfl,by decide +kernel,by decide +kernel,by decide +kernel,rfl,(.cons ⟨rfl,by decide +kernel⟩ (.cons ⟨rfl,by decide +kernel⟩ .nil)),by decide +kernel⟩ rfl
   (dF (pv 2))
   (λCq fq sq Hq=>(cZ (X:=cp _ ["_law_product_here","_law_one","_law_prime_here","_law_number_here"] _ Cq fq sq Hq) rfl (aE (aG (X:=cp _ ["_law_product_here","_law_one","_law_prime_here","_law_number_here"] _ Cq fq sq Hq) (i:=0) (by show (["_law_product_here","_law_one","_law_prime_here","_law_number_here"]:List Str).Nodup; decide +kernel) rfl (Or.inl rfl) (Or.inr rfl)) (aE (aG (X:=cp _ ["_law_product_here","_law_one","_law_prime_here","_law_number_here"] _ Cq fq sq Hq) (i:=1) (by show (["_law_product_here","_law_one","_law_prime_here","_law_number_here"]:List Str).Nodup; decide +kernel) rfl (Or.inl rfl) (Or.inr rfl)) cj))))
   (λCq fq sq Hq=>d6)
   (λCq fq sq Hq=>(@bV _ _ _ _ _ (@ai _ _ _ _ _ (pv 0) (@ai _ _ _ _ _ (ax FM Gg (by rfl) mM kM bM .nil ae (@ai _ _ _ _ _ (pv 2) (@ai _ _ _ _ _ (pv 1) (@ai _ _ _ _ _ (pv 3) af rfl) rfl) rfl)) af rfl) rfl)))) af rfl) rfl)) rfl (Or.inl rfl))
   (ar (az (ax FI' FQ (by rfl) mI kI bI' .nil ae (@ai _ _ _ _ _ (aX (cT M FI Jh (by rfl) c.c.mgC bI .nil ae (@ai _ _ _ _ _ (pv 0) (@ai _ _ _ _ _ (pv 2) af rfl) rfl)) c.c.cl Uc Ua FD Ub .nil ae (@ai _ _ _ _ _ (pv 3) af rfl)) (@ai _ _ _ _ _ (pv 1) (@ai _ _ _ _ _ (pv 4) af rfl) rfl) rfl))))),?_⟩
  have zl:=ht.length;have al:=Ga.len;refine ⟨_,rfl,_,rfl,l,rfl,⟨_,bu.of hl⟩,?_⟩;refine lV (xs:=ys) (λi us H'=>aB H H'/\aH H' us (fA p (t,b) (a.take i))) ⟨aB.refl _,.nil⟩ (λi us H' hi h=>?_) (λi v us H' hi NX h=>?_) (λus H' h=>?_)
  ·refine ⟨?_,bu.of (h.1 _ _ hl)⟩;rw [h.2.length];unfold fA;rw [List.length_map,List.length_take];exact Nat.lt_of_le_of_lt (show _<=4000 by omega) (by decide)
  ·obtain ⟨sH,hu⟩:=h;obtain ⟨u,eu,at_,pr,LO,rfl,GC,FA,Iq⟩:=bH ht NX;have gu:=Ga.num u (List.mem_of_getElem? eu)
   have Gh:a.take (i + 1)=a.take i++[u]:=by rw [List.take_add_one,eu]; rfl
   refine ⟨at_,.ref pr,.ref LO,rfl,a9.of (sH _ _ GC),λN k=>?_⟩;refine xj ⟨_,rfl,_,rfl,_,rfl,_,rfl,p,u.2.1,u.2.2,t,b,LO,nu,rfl,hp,sH _ _ Iq,sH _ _ Fx,gu.2.1,gu.2.2,gn.2.1,gn.2.2,gu.ne,gn.ne,(λw=>by rw [(gu.1.pr w).1,show b=1 from (gn.1.pr w).1]; rfl),λH1 a1 s1 e1=>?_⟩;refine ⟨kZ,λtu Hy=>?_⟩;have r2:=av (o:=.tup [.ref pr,.ref a1]) Hy;have Iv:=s1.trans r2;refine k _ _ ⟨sH.trans Iv,?_⟩;rw [Gh];unfold fA;rw [List.map_append];exact Paired.snoc (aH.keep hu (ay.of Iv)) ⟨tu,pr,a1,rfl,ah,Iv _ _ (sH _ _ FA),r2 _ _ e1⟩
  obtain ⟨sH,hu⟩:=h;rw [zl,List.take_length] at hu;intro l2 GO;have r1:=av (o:=.lst us) GO;refine ⟨l2,p,us,_,rfl,hp,ah,aH.keep hu (ay.of r1),G1,λH2 D zs s2 hD hz=>?_⟩;have GZ:=(sH.trans r1).trans s2;refine ⟨_,rfl,_,rfl,λx dx hx ML ne=>?_⟩;refine dO hx ML ne (GZ _ _ hf) hp (GZ _ _ hl) (aH.keep ht (ay.of GZ)) Ga hP λH3 s3 S3=>?_;have Gd:=GZ.trans s3;obtain ⟨Nt,MM,aau,Dd,Xm,h1,_⟩:=S3.ex;refine ⟨x,Nt,_,rfl,h1,rfl,_,rfl,x,p,tg p a,.ref nu,some (.int t,.int b),rfl,S3,hp,ltg,gtg,.two (Gd _ _ Fx) (.int _) (.int _),?_,λ_=>⟨nu,t,b,rfl,Gd _ _ Fx⟩,λz=>by rw [r6 gn.1] at z; cases z⟩;intro t' b' y ey hy hn
  injection ey with ey
  subst ey;have e:=(Gd _ _ Fx).symm.trans hy
  injection e with e
  injection e with e
  injection e with e1 e
  injection e with e2 _
  injection e1 with e1
  injection e2 with e2
  subst e1;subst e2;refine ⟨gn.2.1,gn.2.2,gn.1,G2,λH4 u s4 S4=>?_⟩;rw [uP hp (λe he=>(Ga.num e he).1) gn.1] at S4;have RN:=s3.trans s4;exact ⟨_,rfl,_,rfl,u,D,p,_,_,rfl,S4,RN _ _ hD,aH.keep hz (ay.of RN),λH5 s5=>q _ ((Gd.trans s4).trans s5)⟩
theorem pN {α:Type} [BEq α] [LawfulBEq α]:∀ {l m:List α},l.Nodup->(∀ x∈l,x∈m)->l.length<=m.length
 | [],m,_,_=>Nat.zero_le _
 | x :: l,m,h,hm=>by
   obtain ⟨h1,h2⟩:=List.nodup_cons.mp h;have hx:=hm x List.mem_cons_self;have ih:=pN (l:=l) (m:=m.erase x) h2 λy hy=>(List.mem_erase_of_ne (λ(e:y=x)=>h1 (by rw [<-e]; exact hy))).mpr (hm y (List.mem_cons_of_mem _ hy));have e:=List.length_erase_of_mem hx;have p:0 < m.length:=List.length_pos_of_mem hx;rw [List.length_cons];omega
noncomputable def uj:List Int->List (List Int)
 | []=>[[]]
 | x :: l=>(uj l).map (x :: ·)++uj l
theorem hV:∀ {l ks:List Int},l.Pairwise (· < ·)->ks.Pairwise (· < ·)->(∀ k∈ks,k∈l)->ks∈uj l
 | [],[],_,_,_=>List.mem_singleton.mpr rfl
 | [],k :: ks,_,_,h=>nomatch h k List.mem_cons_self
 | x :: l,[],hl,hk,h=>List.mem_append_right _ (hV (List.pairwise_cons.mp hl).2 hk λk z=>nomatch z)
 | x :: l,k :: ks,hl,hk,h=>by
   obtain ⟨l1,l2⟩:=List.pairwise_cons.mp hl;obtain ⟨k1,k2⟩:=List.pairwise_cons.mp hk
   by_cases e:k=x
   ·subst e;refine List.mem_append_left _ (List.mem_map.mpr ⟨ks,hV l2 k2 λz hz=>?_,rfl⟩)
    rcases List.mem_cons.mp (h z (List.mem_cons_of_mem _ hz)) with w | w
    ·have:=k1 z hz; omega
    ·exact w
   ·have kx:k∈l:=by
     rcases List.mem_cons.mp (h k List.mem_cons_self) with w | w
     ·exact absurd w e
     ·exact w
    have lx:=l1 k kx;refine List.mem_append_right _ (hV l2 hk λz hz=>?_)
    rcases List.mem_cons.mp (h z hz) with w | w
    ·rcases List.mem_cons.mp hz with v | v
     ·exact absurd (v.symm.trans w) e
     ·have:=k1 z v; omega
    ·exact w
noncomputable def P5 (ks:List Int):Prop:=ks.Pairwise (· < ·)/\∀ k∈ks,0<=k/\k < 5
theorem P5.mem {ks:List Int}(h:P5 ks):ks∈uj [0,1,2,3,4]:=hV (by decide) h.1 λk hk=>by
 have:=h.2 k hk
 have:k=0\/k=1\/k=2\/k=3\/k=4:=by omega
 rcases this with h | h | h | h | h <;> (rw [h]; decide)
theorem P5.len {ks:List Int}(h:P5 ks):ks.length<=5:=by
 have:∀ l∈uj [0,1,2,3,4],l.length<=5:=by decide
 exact this ks h.mem
theorem P5.both {ks ms:List Int}(h:P5 ks)(g:P5 ms):P5 (gM (ks++ms)):=⟨ko _,λk hk=>by
 rcases List.mem_append.mp (fU.mp hk) with z | z
 ·exact h.2 k z
 ·exact g.2 k z⟩
theorem yg {p:Int}{d:List Tm}{t e:Tm}(h:e∈cX p d t):(∃ x∈d,e.1=x.1)\/e.1=t.1:=by
 unfold cX at h
 split at h
 ·obtain ⟨x,hx,rfl⟩:=List.mem_map.mp h;refine .inl ⟨x,hx,?_⟩
  split <;> rfl
 ·rcases List.mem_append.mp h with h | h
  ·exact .inl ⟨e,h,rfl⟩
  ·have:e=t:=by simpa using h
   exact .inr (by rw [this])
theorem pe {p:Int}:∀ (ts d:List Tm)(e:Tm),e∈ts.foldl (cX p) d->(∃ x∈d,e.1=x.1)\/∃ x∈ts,e.1=x.1
 | [],d,e,h=>.inl ⟨e,h,rfl⟩
 | t :: ts,d,e,h=>by
   rcases pe ts (cX p d t) e h with ⟨x,hx,ex⟩ | ⟨x,hx,ex⟩
   ·rcases yg hx with ⟨y,hy,ey⟩ | ey
    ·exact .inl ⟨y,hy,ex.trans ey⟩
    ·exact .inr ⟨t,List.mem_cons_self,ex.trans ey⟩
   ·exact .inr ⟨x,List.mem_cons_of_mem _ hx,ex⟩
theorem sQ {p:Int}{ts:List Tm}(h:∀ t∈ts,P5 t.1):∀ e∈aN p ts,P5 e.1:=λe he=>by
 rcases pe ts [] e he with ⟨x,hx,_⟩ | ⟨x,hx,ex⟩
 ·exact nomatch hx
 ·rw [ex]; exact h x hx
theorem CP {p:Int}{ts:List Tm}(h:∀ t∈ts,P5 t.1):∀ e∈tg p ts,P5 e.1:=λe he=>sQ h e (List.mem_filter.mp ((eO _).mem_iff.mp he)).1
theorem og {p:Int}{ts:List Tm}(hp:FP p)(hn:br p ts)(h:∀ t∈ts,P5 t.1):(aN p ts).length<=32:=by
 obtain ⟨R,i,v,V⟩:=hp.v;have nd:=(eU V hp.nn hn λ_=>0).2.2
 have:=pN (l:=(aN p ts).map (·.1)) (m:=uj [0,1,2,3,4]) nd λk hk=>by
  obtain ⟨e,he,rfl⟩:=List.mem_map.mp hk;exact (sQ h e he).mem
 rw [List.length_map] at this;exact this
theorem Bd {p:Int}{ts:List Tm}(hp:FP p)(hn:br p ts)(h:∀ t∈ts,P5 t.1):(tg p ts).length<=32:=by
 rw [(eO (aN p ts)).length_eq];exact Nat.le_trans (List.length_filter_le _ _) (og hp hn h)
structure Tl (p D M:Int)(n:Nat)(ts:List Tm):Prop where
 d:∀ t∈ts,Cd p D M t.2
 k:∀ t∈ts,P5 t.1
 l:ts.length<=n
theorem Tl.num {p D M:Int}{n:Nat}{ts:List Tm}(h:Tl p D M n ts):br p ts:=λt ht=>(h.d t ht).num
theorem Tl.gth {p D M:Int}{n:Nat}{ts:List Tm}(h:Tl p D M n ts)(hp:FP p)(hM:0<=M)(LN:D≠0)(hD:B 4000 D)(hB:B 4000 (M * n))(hn:n < 4000):Gth p ts:=by
 have hl:=h.l;refine Gth.cd hp hM h.d LN hD (hB.le ?_) (by omega) (Nat.lt_of_le_of_lt (og hp h.num h.k) (by decide));rw [Int.natAbs_mul,Int.natAbs_mul];exact Nat.mul_le_mul_left _ (by omega)
theorem Tl.tg {p D M:Int}{n:Nat}{ts:List Tm}(h:Tl p D M n ts)(hp:FP p)(hM:0<=M):Tl p D (M * n) 32 (tg p ts):=by
 have hl:=h.l;refine ⟨λe he=>(DA hp hM h.d e he).mono (Int.mul_le_mul_of_nonneg_left (by omega) hM),CP h.k,Bd hp h.num h.k⟩
theorem Tl.mul {p D M E N:Int}{n m:Nat}{a b:List Tm}(h:Tl p D M n a)(g:Tl p E N m b)(hp:FP p):Tl p (D * E) (M * N) (n * m) (cG p a b):=by
 refine ⟨λe he=>?_,λe he=>?_,?_⟩
 ·obtain ⟨x,hx,he⟩:=List.mem_flatMap.mp he;obtain ⟨y,hy,rfl⟩:=List.mem_map.mp he;exact (h.d x hx).mul hp (g.d y hy)
 ·obtain ⟨x,hx,he⟩:=List.mem_flatMap.mp he;obtain ⟨y,hy,rfl⟩:=List.mem_map.mp he;exact (h.k x hx).both (g.k y hy)
 ·unfold cG;rw [List.length_flatMap];simp only [List.length_map];rw [List.map_const',List.sum_replicate_nat];exact Nat.mul_le_mul h.l g.l
theorem yi {p:Int}:∀ {ts:List Tm},(∀ t∈ts,Gn p 45 t.2)->∃ D:Int,0 < D/\B (45 * ts.length + 1) D/\∀ t∈ts,Cd p D (35184372088832 * D) t.2
 | [],_=>⟨1,by decide,by unfold B; decide,λt h=>nomatch h⟩
 | t :: ts,h=>by
   obtain ⟨D,d0,dB,hd⟩:=yi (ts:=ts) λt ht=>h t (List.mem_cons_of_mem _ ht);obtain ⟨n,b1,b2⟩:=h t List.mem_cons_self;have bp:=n.pos
   have dle:D<=D * t.2.2:=by
    have:=Int.mul_le_mul_of_nonneg_left (show 1<=t.2.2 by omega) (show 0<=D by omega);omega
   refine ⟨D * t.2.2,Int.mul_pos d0 bp,?_,λu hu=>?_⟩
   ·have:=dB.mul b2;exact this.mono (by rw [List.length_cons]; omega)
   ·rcases List.mem_cons.mp hu with rfl | hu
    ·refine ⟨n,λ_=>⟨D,Int.mul_comm _ _,?_⟩⟩;rw [Int.natAbs_mul];have bt:u.2.1.natAbs < 35184372088832:=Nat.lt_of_lt_of_le b1 (by decide);have h1:u.2.1.natAbs * D.natAbs<=35184372088832 * D.natAbs:=Nat.mul_le_mul_right _ (by omega)
     have h2:((35184372088832 * D.natAbs:Nat):Int)=35184372088832 * D:=by
      rw [Int.natCast_mul,Int.natAbs_of_nonneg (show 0<=D by omega)];rfl
     have h3:((u.2.1.natAbs * D.natAbs:Nat):Int)<=((35184372088832 * D.natAbs:Nat):Int):=Int.ofNat_le.mpr h1;rw [h2] at h3;exact Int.le_trans h3 (Int.mul_le_mul_of_nonneg_left dle (by decide))
    ·have c:=hd u hu;refine ⟨c.num,λz=>?_⟩;obtain ⟨k,ek,lk⟩:=c.d z;refine ⟨k * t.2.2,by rw [<-Int.mul_assoc,ek],?_⟩;rw [<-Int.mul_assoc,Int.natAbs_mul];rw [Int.natCast_mul,Int.natAbs_of_nonneg (show 0<=t.2.2 by omega),<-Int.mul_assoc];exact Int.mul_le_mul_of_nonneg_right lk (show 0<=t.2.2 by omega)
noncomputable abbrev rq:Stmt:=(aZ 46)
theorem tO:∀ {ks:List Int},ks.Pairwise (· < ·)->iS (ks.map V.int)=true
 | [],_=>rfl
 | [k],_=>rfl
 | a :: b :: ks,h=>by
   obtain ⟨h1,h2⟩:=List.pairwise_cons.mp h;have ih:=tO h2;unfold iS at ih |-;have e:((a :: b :: ks).map V.int).zip (((a :: b :: ks).map V.int).drop 1)=(V.int a,V.int b):: (((b :: ks).map V.int).zip (((b :: ks).map V.int).drop 1)):=rfl;rw [e,List.all_cons,ih,Bool.and_true];exact decide_eq_true (h1 b List.mem_cons_self)
theorem Cc {ks:List Int}(h:ks.Pairwise (· < ·))(hb:∀ k∈ks,0<=k/\k < 60)(hl:ks.length < 4000):AD ks:=by
 refine ⟨?_,hl⟩;show ((ks.map V.int).all cD&&iS (ks.map V.int))=true;rw [tO h,Bool.and_true,List.all_map,List.all_eq_true];intro k hk;obtain ⟨h0,h1⟩:=hb k hk;show (decide (0<=k)&&decide (k < 60))=true;rw [decide_eq_true h0,decide_eq_true h1];rfl
noncomputable def spLProd:Sp:=λvs H Q _=>∃ (r:Addr)(many share:Int),vs=[.ref r,.int many,.int share]/\a8 H r/\0<=many/\many<=60/\0 < share/\share < 1000 /\
 ∀ (a:Addr)(ks:List Int)(H':Hp),ks.Pairwise (· < ·)->(∀ k∈ks,0<=k/\k < many)->ks.length<=60->H' a=some (.tup (ks.map V.int))->a8 H' r->SameBut r H H'->Q (.ref a) H'
theorem zN:FnScope ["_law_room_here","_law_many","_law_share"] ["_law_room_here","_law_many","_law_share"] (aq rq):=dX (by decide +kernel)
theorem xT {f ft:Addr}{fd F2:FuncData}(F:Fun K "_law_product" "_law_product" rq f fd)(Fc:mg "tuple"=none)(m_range:mg "range"=none)
 (FT:FnOk P w K mg base (aV P w) 1 ft F2 ["_law_room_here","_law_many"] spTake)(bT:L2.aA K F2 ["_law_room_here","_law_many"] [])(mT:mg "_law_take"=some (.ref ft))(kT:keepIn K (.ref ft)=true):
 FnOk P w K mg base (aV P w) 2 f fd ["_law_room_here","_law_many","_law_share"] spLProd:=by
 refine F.okN zN (λvs H Q E h=>?_) (λFb A outer s H vs Q E hr h=>?_)
 ·obtain ⟨r,many,share,rfl,_⟩:=h;rfl
 ·obtain ⟨r,many,share,rfl,hR,m0,m1,s0,s1,q⟩:=h;have FF:Room 1 _:=hr.mono (by decide)
  refine ⟨_,(ar (az (c9 eB (by rfl) Fc (by rfl) (@ai _ _ _ _ _ (eX (N:=["_law_place","_law_room_here","_law_share"]) (nl:=1) (js:=[0,2]) (osc:=aq rq) ⟨rfl,rfl,by decide +kernel,by decide +kernel,by decide +kernel,rfl,(.cons ⟨rfl,by decide +kernel⟩ (.cons ⟨rfl,by decide +kernel⟩ .nil)),by decide +kernel⟩ rfl
   (fQ (by rfl) m_range (@ai _ _ _ _ _ (pv 1) af rfl))
   (λC fp s H=>aG (i:=0) (by show (["_law_place","_law_room_here","_law_share"]:List Str).Nodup; decide +kernel) rfl (Or.inl rfl) (Or.inr rfl))
   (λC fp s H=>(nJ (@aQ _ _ _ _ _ _ _ _ d8 (ax FT FF (by rfl) mT kT bT .nil ae (@ai _ _ _ _ _ (pv 1) (@ai _ _ _ _ _ (pv 2) af rfl) rfl)) aj (aI _))))
   (λC fp s H=>(pv 0))) af rfl)))),?_⟩
  refine ⟨_,rfl,many,rfl,by omega,by omega,?_⟩
  refine ⟨λi m xs σ' H'=>m=many.toNat - i/\i<=many.toNat/\(∃ ks:List Int,xs=ks.map V.int/\ks.Pairwise (· < ·)/\(∀ k∈ks,0<=k/\k < (i:Int))/\ks.length<=i)/\a8 H' r/\SameBut r H H'/\∃ o,σ'=[o,some (.ref r),some (.int share)],
   ⟨many.toNat,by simp,Nat.zero_le _,⟨[],rfl,.nil,λk h=>(nomatch h),Nat.le_refl _⟩,hR,λ_ _ e _=>e,none,rfl⟩,?_⟩
  rintro i m xs σ' H' ⟨rfl,hi,⟨ks,rfl,NZ,MP,Ud⟩,⟨l,x,LU,x0,x1⟩,sb,o,rfl⟩;refine ⟨by rw [List.length_map]; exact Nat.lt_of_le_of_lt (Nat.le_trans Ud (show i<=60 by omega)) (by decide),?_⟩
  by_cases Fd:i < many.toNat
  ·refine .inr ⟨Fd,λy H2 hy=>?_⟩;obtain ⟨rfl,rfl⟩:=hy;refine ⟨_,rfl,_,rfl,r,l,x,share,rfl,LU,x0,x1,s0,by omega,λz l2 r2 z0 z1 g0 g1=>?_⟩;have RE:SameBut r H (upd H2 r (.lst [.int l2,.int r2])):=sb.trans SameBut.upd;have R2:a8 (upd H2 r (.lst [.int l2,.int r2])) r:=⟨l2,r2,ah,g0,g1⟩;refine ⟨rfl,_,rfl,?_⟩;refine cz (λh=>?_) (λh=>?_)
   ·refine ⟨_,rfl,many.toNat - (i + 1),by omega,rfl,Fd,⟨ks++[0 + (i:Int)],by simp,?_,?_,by simp; omega⟩,R2,RE,_,rfl⟩
    ·refine List.pairwise_append.mpr ⟨NZ,List.pairwise_singleton _ _,λa ha b hb=>?_⟩
     have:b=0 + (i:Int):=by simpa using hb
     have:=(MP a ha).2;omega
    ·intro k hk
     rcases List.mem_append.mp hk with hk | hk
     ·have:=MP k hk; omega
     ·have:k=0 + (i:Int):=by simpa using hk
      omega
   ·exact ⟨many.toNat - (i + 1),by omega,rfl,Fd,⟨ks,rfl,NZ,λk hk=>by have:=MP k hk; omega,by omega⟩,R2,RE,_,rfl⟩
  ·have ei:i=many.toNat:=by omega
   refine .inl ⟨by show many.toNat<=i; omega,λD hD=>?_⟩;refine ⟨D,_,rfl,.inl ⟨bu.of ah,λa ha=>?_⟩⟩;have nD:r≠D:=au LU hD;have na:r≠a:=au (show upd H' D (.lst (ks.map V.int)) r=some (.lst [.int l,.int x]) by rw [ao nD]; exact LU) ha;refine q a ks _ NZ (λk hk=>by have:=MP k hk; omega) (by omega) ah ⟨l,x,by rw [ao na,ao nD]; exact LU,x0,x1⟩ λb u e nb=>?_;have e1:=sb b u e nb
   have e2:upd H' D (.lst (ks.map V.int)) b=some u:=by rw [ao (au e1 hD)]; exact e1
   rw [ao (au e2 ha)];exact e2
noncomputable abbrev rY:Stmt:=(aZ 47)
noncomputable def DM (p many:Int)(t:Tm):Prop:=Gn p 45 t.2/\t.1.Pairwise (· < ·)/\(∀ k∈t.1,0<=k/\k < many)/\t.1.length<=60
noncomputable def spLTerms:Sp:=λvs H Q _=>∃ (r:Addr)(p many most:Int),vs=[.ref r,.int p,.int many,.int most]/\a8 H r/\FP p/\0<=many/\many<=60/\0<=most/\most<=40 /\
 ∀ (D:Addr)(ys:List V)(ts:List Tm)(H':Hp),H' D=some (.lst ys)->aH H' ys ts->(ts.length:Int)<=most->(∀ t∈ts,DM p many t)->a8 H' r->SameBut r H H'->Q (.ref D) H'
theorem a8.keepT {H H':Hp}{r:Addr}(h:a8 H r)(s:SameBut r H H'):ay H H':=λb xs e=>s b _ e λz=>by
 obtain ⟨l,x,e',_⟩:=h;rw [z,e'] at e
 cases e
theorem ic:FnScope ["_law_room_here","_law_prime_here","_law_many","_law_most","_law_found","_law_k","_law_product_here"] ["_law_room_here","_law_prime_here","_law_many","_law_most"] (aq rY):=dX (by decide +kernel)
theorem u5 {f ft fp fn:Addr}{fd F2 Hm NY:FuncData}(F:Fun K "_law_terms" "_law_terms" rY f fd)(m_range:mg "range"=none)
 (FT:FnOk P w K mg base (aV P w) 1 ft F2 ["_law_room_here","_law_many"] spTake)(bT:L2.aA K F2 ["_law_room_here","_law_many"] [])(mT:mg "_law_take"=some (.ref ft))(kT:keepIn K (.ref ft)=true)
 (FP:FnOk P w K mg base (aV P w) 2 fp Hm ["_law_room_here","_law_many","_law_share"] spLProd)(bP:L2.aA K Hm ["_law_room_here","_law_many","_law_share"] [])(mP:mg "_law_product"=some (.ref fp))(kP:keepIn K (.ref fp)=true)
 (FN:FnOk P w K mg base (aV P w) 2 fn NY ["_law_room_here","_law_prime_here"] spNumber)(bN:L2.aA K NY ["_law_room_here","_law_prime_here"] [])(mN:mg "_law_number"=some (.ref fn))(kN:keepIn K (.ref fn)=true):
 FnOk P w K mg base (aV P w) 3 f fd ["_law_room_here","_law_prime_here","_law_many","_law_most"] spLTerms:=by
 refine F.okN ic (λvs H Q E h=>?_) (λFb A outer s H vs Q E hr h=>?_)
 ·obtain ⟨r,p,many,most,rfl,_⟩:=h;rfl
 ·obtain ⟨r,p,many,most,rfl,hR,hp,m0,m1,n0,n1,q⟩:=h;have FQ:Room 2 _:=hr.mono (by decide);have FF:Room 1 _:=hr.mono (by decide)
  refine ⟨_,(ak (@aY _ _ 4 _ _ _ _ ic.nd rfl (Or.inl rfl) (@cW _ _ _ _ af) rfl (Or.inl rfl))
   (ak (gB PassesOwn.never rfl (fQ (by rfl) m_range (@ai _ _ _ _ _ (ax FT FF (by rfl) mT kT bT .nil ae (@ai _ _ _ _ _ (pv 0) (@ai _ _ _ _ _ (@aJ _ _ _ _ _ _ _ _ eA (pv 3) aj) af rfl) rfl)) af rfl)) (aG (i:=5) ic.nd rfl (Or.inl rfl))
   (ak (@aY _ _ 6 _ _ _ _ ic.nd rfl (Or.inl rfl) (ax FP FQ (by rfl) mP kP bP .nil ae (@ai _ _ _ _ _ (pv 0) (@ai _ _ _ _ _ (pv 2) (@ai _ _ _ _ _ (@aJ _ _ _ _ _ _ _ _ eA aj (ax FT FF (by rfl) mT kT bT .nil ae (@ai _ _ _ _ _ (pv 0) (@ai _ _ _ _ _ aj af rfl) rfl))) af rfl) rfl) rfl)) rfl (Or.inl rfl))
   (ar (m8 (sM PySem.F.plainAttrs_list PySem.F.slot_list_append PySem.F.type_list_append mn (pv 4) (@ai _ _ _ _ _ (@bV _ _ _ _ _ (@ai _ _ _ _ _ (pv 6) (@ai _ _ _ _ _ (ax FN FQ (by rfl) mN kN bN .nil ae (@ai _ _ _ _ _ (pv 0) (@ai _ _ _ _ _ (pv 1) af rfl) rfl)) af rfl) rfl)) af rfl))))))
   (ar (az (pv 4))))),?_⟩
  refine ⟨Nat.zero_le _,λD hD=>?_⟩;obtain ⟨l0,x0,Xn,a0,a1⟩:=hR;have MQ:r≠D:=au Xn hD
  have hR1:upd H D (.lst []) r=some (.lst [.int l0,.int x0]):=by rw [ao MQ]; exact Xn
  refine ⟨_,rfl,_,rfl,_,_,rfl,rfl,r,l0,x0,most + 1,rfl,hR1,a0,a1,by omega,by omega,λz l1 x1 z0 z1 b0 b1=>?_⟩
  have JU:SameBut r H (upd (upd H D (.lst [])) r (.lst [.int l1,.int x1])):=λb u e nb=>by rw [ao nb,ao (au e hD)]; exact e
  have R1:a8 (upd (upd H D (.lst [])) r (.lst [.int l1,.int x1])) r:=⟨l1,x1,ah,b0,b1⟩
  have Ih:upd (upd H D (.lst [])) r (.lst [.int l1,.int x1]) D=some (.lst []):=by rw [ao (Ne.symm MQ)]; exact ah
  generalize upd (upd H D (.lst [])) r (.lst [.int l1,.int x1])=H1 at JU R1 Ih |-;refine ⟨z,rfl,by omega,by omega,?_⟩
  refine ⟨λi m σ' H'=>m=z.toNat - i/\i<=z.toNat/\a8 H' r/\SameBut r H H'/\(∃ ys ts,H' D=some (.lst ys)/\aH H' ys ts/\ts.length=i/\∀ t∈ts,DM p many t)/\∃ o5 o6,σ'=[some (.ref r),some (.int p),some (.int many),some (.int most),some (.ref D),o5,o6],
   ⟨z.toNat,by simp,Nat.zero_le _,R1,JU,⟨[],[],Ih,.nil,rfl,λt h=>(nomatch h)⟩,none,none,rfl⟩,?_⟩
  rintro i m σ' H' ⟨rfl,hi,LU,JL,⟨ys,ts,eD,ht,tl,tg⟩,o5,o6,rfl⟩
  by_cases Fd:i < z.toNat
  ·refine .inr ⟨Fd,λσ' H'=>a8 H' r/\SameBut r H H'/\(∃ ys ts,H' D=some (.lst ys)/\aH H' ys ts/\ts.length=i + 1/\∀ t∈ts,DM p many t)/\∃ o5 o6,σ'=[some (.ref r),some (.int p),some (.int many),some (.int most),some (.ref D),o5,o6],?_,λy H2 hy=>?_⟩
   ·rintro σ' H' ⟨h1,h2,h3,h4⟩;exact ⟨z.toNat - (i + 1),by omega,rfl,Fd,h1,h2,h3,h4⟩
   ·obtain ⟨rfl,rfl⟩:=hy;obtain ⟨l2,x2,e2,c0,c1⟩:=LU;refine ⟨_,rfl,_,rfl,_,rfl,r,l2,x2,2,rfl,e2,c0,c1,by decide,by decide,λu l3 x3 u0 u1 d0 d1=>?_⟩;have R3:a8 (upd H2 r (.lst [.int l3,.int x3])) r:=⟨l3,x3,ah,d0,d1⟩;have RO:SameBut r H2 (upd H2 r (.lst [.int l3,.int x3])):=SameBut.upd;generalize upd H2 r (.lst [.int l3,.int x3])=H3 at R3 RO |-;refine ⟨_,_,rfl,rfl,r,many,2 + u,rfl,R3,m0,m1,by omega,by omega,λa ks H4 NZ MP Ud ha R4 Ue=>?_⟩;have RG:H4 D=some (.lst ys):=Ue _ _ (RO _ _ eD (Ne.symm MQ)) (Ne.symm MQ);have k2:ay H2 H3:=a8.keepT ⟨l2,x2,e2,c0,c1⟩ RO;have k3:ay H3 H4:=R3.keepT Ue;refine ⟨_,rfl,.inl ⟨rfl,_,bu.of RG⟩,_,rfl,_,rfl,_,rfl,r,p,rfl,hp,R4,λan tt bb H5 hn B1 B2 hn5 R5 Ug=>?_⟩;have k4:ay H4 H5:=R4.keepT Ug;refine ⟨kZ,λtu Hy=>?_⟩;have NK:H5 D=some (.lst ys):=Ug _ _ RG (Ne.symm MQ);have sU:aB H5 (upd H5 tu (.tup [.ref a,.ref an])):=av Hy;have Xo:=sU _ _ NK;refine ⟨D,ys,.ref tu,rfl,rfl,Xo,?_,?_⟩
    ·rw [ht.length];exact Nat.lt_of_le_of_lt (show ts.length<=60 by omega) (by decide)
    have kD:ay (upd H5 tu (.tup [.ref a,.ref an])) (upd (upd H5 tu (.tup [.ref a,.ref an])) D (.lst (ys++[.ref tu]))):=ay.upd λxs z=>by rw [Xo] at z; cases z
    have kA:ay H2 (upd (upd H5 tu (.tup [.ref a,.ref an])) D (.lst (ys++[.ref tu]))):=((k2.trans k3).trans k4).trans ((ay.of sU).trans kD);obtain ⟨l6,x6,e6,f0,f1⟩:=R5;refine ⟨⟨l6,x6,by rw [ao MQ]; exact sU _ _ e6,f0,f1⟩,λb u e nb=>?_,⟨_,ts++[(ks,tt,bb)],ah,Paired.snoc (aH.keep ht kA) ⟨tu,a,an,rfl,kD _ _ ah,kD _ _ (sU _ _ (k4 _ _ ha)),kD _ _ (sU _ _ hn5)⟩,by simp [tl],λt h=>?_⟩,_,_,rfl⟩
    ·have nb2:b≠D:=au e hD;rw [ao nb2];exact sU _ _ (Ug _ _ (Ue _ _ (RO _ _ (JL _ _ e nb) nb) nb) nb)
    ·rcases List.mem_append.mp h with h | h
     ·exact tg t h
     ·have:t=(ks,tt,bb):=by simpa using h
      subst this;exact ⟨⟨hn,B1,B2⟩,NZ,MP,Ud⟩
  ·have ei:i=z.toNat:=by omega
   refine .inl ⟨by show z.toNat<=i; omega,?_⟩;exact ⟨_,rfl,q D ys ts H' eD ht (by omega) tg LU JL⟩
noncomputable def Lv (p:Int)(m n:Nat)(ts:List Tm):Prop:=∃ D M:Int,0 < D/\0<=M/\B m D/\B m M/\Tl p D M n ts
section
variable {p:Int}{m n m' n':Nat}{a b ts:List Tm}
theorem Lv.num (h:Lv p m n ts):br p ts:=by
 obtain ⟨D,M,_,_,_,_,h⟩:=h;exact h.num
theorem Lv.len (h:Lv p m n ts):ts.length<=n:=by
 obtain ⟨D,M,_,_,_,_,h⟩:=h;exact h.l
theorem Lv.k (h:Lv p m n ts):∀ t∈ts,P5 t.1:=by
 obtain ⟨D,M,_,_,_,_,h⟩:=h;exact h.k
theorem Lv.prd (h:Lv p m n ts):∀ t∈ts,AD t.1:=λt ht=>Cc (h.k t ht).1 (λk hk=>by have:=(h.k t ht).2 k hk; omega) (by have:=(h.k t ht).len; omega)
theorem Al {n k:Nat}(h:n < 2 ^ k):B k (n:Int):=by
 unfold B;rw [Int.natAbs_natCast];exact h
theorem Lv.gth (h:Lv p m n ts)(hp:FP p)(hm:m + 12<=4000)(hn:n < 4000):Gth p ts:=by
 obtain ⟨D,M,d0,m0,bd,bm,h⟩:=h;exact h.gth hp m0 (by omega) (bd.mono (by omega)) ((bm.mul (Al (k:=12) (Nat.lt_of_lt_of_le hn (by decide)))).mono hm) hn
theorem Lv.tg (h:Lv p m n ts)(hp:FP p)(hn:n < 2048):Lv p (m + 11) 32 (tg p ts):=by
 obtain ⟨D,M,d0,m0,bd,bm,h⟩:=h;exact ⟨D,M * n,d0,Int.mul_nonneg m0 (Int.natCast_nonneg _),bd.mono (by omega),bm.mul (Al (k:=11) (Nat.lt_of_lt_of_le hn (by decide))),h.tg hp m0⟩
theorem Lv.mul (h:Lv p m n a)(g:Lv p m' n' b)(hp:FP p):Lv p (m + m') (n * n') (cG p a b):=by
 obtain ⟨D,M,d0,m0,bd,bm,h⟩:=h;obtain ⟨E,N,e0,n0,be,bn,g⟩:=g;exact ⟨D * E,M * N,Int.mul_pos d0 e0,Int.mul_nonneg m0 n0,bd.mul be,bm.mul bn,h.mul g hp⟩
theorem Cd.up {D M E:Int}{x:Int × Int}(h:Cd p D M x)(he:0<=E):Cd p (D * E) (M * E) x:=⟨h.num,λz=>by
 obtain ⟨k,ek,lk⟩:=h.d z;refine ⟨k * E,by rw [<-Int.mul_assoc,ek],?_⟩;rw [<-Int.mul_assoc,Int.natAbs_mul,Int.natCast_mul,Int.natAbs_of_nonneg he]
 exact Int.mul_le_mul_of_nonneg_right lk he⟩
theorem Lv.app (h:Lv p m n a)(g:Lv p m' n' b):Lv p (m + m' + 1) (n + n') (a++b):=by
 obtain ⟨D,M,d0,m0,bd,bm,h⟩:=h;obtain ⟨E,N,e0,n0,be,bn,g⟩:=g;have me0:0<=M * E:=Int.mul_nonneg m0 (by omega);have nd0:0<=N * D:=Int.mul_nonneg n0 (by omega);refine ⟨D * E,M * E + N * D,Int.mul_pos d0 e0,by omega,(bd.mul be).mono (by omega),(bm.mul be).add ?_,λt ht=>?_,λt ht=>?_,?_⟩
 ·rw [Nat.add_comm m m'];exact bn.mul bd
 ·rcases List.mem_append.mp ht with ht | ht
  ·exact ((h.d t ht).up (E:=E) (by omega)).mono (by omega)
  ·have:=(g.d t ht).up (E:=D) (by omega);rw [Int.mul_comm E D] at this;exact this.mono (by omega)
 ·rcases List.mem_append.mp ht with ht | ht
  ·exact h.k t ht
  ·exact g.k t ht
 ·rw [List.length_append];have:=h.l;have:=g.l;omega
theorem Lv.scl {c:Int × Int}(h:Lv p m n a)(g:Gn p m' c)(hp:FP p):Lv p (m + m') n (fA p c a):=by
 obtain ⟨D,M,d0,m0,bd,bm,h⟩:=h;have cd:Cd p c.2 (c.1.natAbs:Int) c:=⟨g.1,λ_=>⟨1,Int.mul_one _,by rw [Int.mul_one]; exact Int.le_refl _⟩⟩;have bc:B m' ((c.1.natAbs:Nat):Int):=g.2.1.le (by rw [Int.natAbs_natCast]; exact Nat.le_refl _);refine ⟨D * c.2,M * c.1.natAbs,Int.mul_pos d0 g.1.pos,Int.mul_nonneg m0 (Int.natCast_nonneg _),bd.mul g.2.2,bm.mul bc,λt ht=>?_,λt ht=>?_,?_⟩
 ·obtain ⟨x,hx,rfl⟩:=List.mem_map.mp ht;exact (h.d x hx).mul hp cd
 ·obtain ⟨x,hx,rfl⟩:=List.mem_map.mp ht;exact h.k x hx
 ·unfold fA;rw [List.length_map];exact h.l
theorem Lv.gn (h:Lv p m n ts)(hp:FP p)(hm:m + 12<=4000)(hn:n < 4000):∀ t∈ts,Gn p 4000 t.2/\DF t:=λt ht =>
 ⟨(h.gth hp hm hn).num t ht,(h.k t ht).1,by have:=(h.k t ht).len; omega⟩
theorem By (hl:ts.length<=6)(h:∀ t∈ts,DM p 5 t):Lv p 320 6 ts:=by
 obtain ⟨D,d0,dB,hd⟩:=yi (p:=p) (ts:=ts) λt ht=>(h t ht).1;refine ⟨D,35184372088832 * D,d0,Int.mul_nonneg (by decide) (by omega),dB.mono (by omega),?_,hd,λt ht=>⟨(h t ht).2.1,(h t ht).2.2.1⟩,hl⟩
 have:B 46 (35184372088832:Int):=by unfold B; decide
 exact (this.mul dB).mono (by omega)
end
end K06
namespace L2
open PySem PySem.Spec PyProof.Rows
section
variable {prog:Program}{w:World}{A:Around}{E:Value->Shared->Prop}{s:Shared}
theorem lX {it t:Addr}{items:Array Value}(Ft:t≠it):∀ (n i:Nat)(s:Shared)(Q:List Value->Shared->Prop),s.heap.IsListIter it t i->s.heap.IsList t items->i + n<=items.size →
 (∀ h',h'.IsListIter it t (i + n)->Heap.SameBut it s.heap h'->Q ((items.toList.drop i).take n) { s with heap:=h' })->wpAny (model prog w) A (draw (.ref it) n) Q E s
 | 0,i,s,Q,hit,_,_,hQ=>by
   show wpAny _ _ (pure []) Q E s;exact wpAny_pure (by simpa using hQ s.heap hit (Heap.SameBut.refl ..))
 | n + 1,i,s,Q,hit,ht,hle,hQ=>by
   have Fd:i < items.size:=by omega
   show wpAny _ _ (pyNext (.ref it) >>= _) Q E s;refine wpAny_bind (wpAny_pyNext_list_item hit ht (x:=items[i]) (by simp [Fd]) λh₁ LV N0=>?_)
   have Je:h₁.IsList t items:=by
    obtain ⟨o,ho,r⟩:=ht;exact ⟨o,(N0.2 t Ft).trans ho,r⟩
   refine wpAny_bind (wpAny_holding (lX Ft n (i + 1) _ _ LV Je (by omega) λh₂ Uh hs₂=>wpAny_pure ?_))
   have hd:items.toList.drop i=items[i] :: items.toList.drop (i + 1):=by simp [List.drop_eq_getElem_cons,Fd]
   have:=hQ h₂ (by rw [show i + (n + 1)=i + 1 + n by omega]; exact Uh) (N0.trans hs₂);rw [hd,List.take_succ_cons] at this;exact this
theorem ik {t:Addr}{items:Array Value}{Q:List Value->Shared->Prop}(hh:A.handled=none)(ht:s.heap.IsList t items)
 (hQ:∀ h',Heap.ExtBut s.heap.objs.size s.heap h'->Q items.toList { s with heap:=h' }):wpAny (model prog w) A (unpackItems (.ref t) items.size none) Q E s:=by
 have Fd:t≠s.heap.objs.size:=by obtain ⟨o,ho,_⟩:=ht; exact Nat.ne_of_lt (Heap.lt_size ho)
 have keep:∀ {h':Heap},Heap.ExtBut s.heap.objs.size s.heap h'->h'.IsList t items:=λ{h'} e=>by
  obtain ⟨o,ho,r⟩:=ht;exact ⟨o,e t o Fd ho,r⟩
 unfold unpackItems;refine wpAny_bind ?_
 ·unfold notIterableAtAll;refine wpAny_bind (wpAny_specialOf ht.typeIs slot_list_iter.lookup ?_);refine wpAny_pure ?_;simp only [Bool.false_eq_true,if_false];refine wpAny_bind (wpAny_holding (wpAny_pyIter_list ht ?_));refine wpAny_bind (wpAny_holding (lX Fd items.size 0 _ _ ⟨_,Heap.get?_push_size _ rfl,rfl,rfl⟩ (keep λb o hb e=>Heap.get?_push_of_some _ e) (by omega) λh₁ LV N0=>?_))
  have FX:List.take items.size (List.drop 0 items.toList)=items.toList:=by
   rw [List.drop_zero]; exact List.take_of_length_le (by simp)
  rw [FX];rw [if_neg (by simp)];have ht₁:h₁.IsList t items:=keep λb o hb e=>(N0.2 b hb).trans (Heap.get?_push_of_some _ e);refine wpAny_bind (wpAny_holding (wpAny_pyNext_list_end hh LV ht₁ (by simp) λh₂ he₂=>?_));simp only [Option.isSome_none,Bool.false_eq_true,if_false];refine wpAny_pure (hQ h₂ λb o hb e=>he₂ b o hb (N0.extBut b o hb (Heap.get?_push_of_some _ e)))
theorem gN {env:Env}{elts:List Expr} {x1}{pos:Pos}{t:Addr}{items:Array Value}{Q:Unit->Shared->Prop}(hh:A.handled=none)(ht:s.heap.IsList t items)
 (hn:(assignEach elts env).length=items.size)(N1:(assignEach elts env).findIdx? (·.1)=none)
 (h:∀ h',Heap.ExtBut s.heap.objs.size s.heap h'->wpAny (model prog w) A (assignInOrder ((assignEach elts env).map (·.2)) items.toList) Q E { s with heap:=h' }):
 wpAny (model prog w) A (assign (.Tuple elts x1 pos) env (.ref t)) Q E s:=by
 rw [assign_Tuple];refine wpAny_bind (wpAny_standAt ?_);unfold unpack;rw [hn,N1];exact wpAny_bind (wpAny_holding (ik hh ht h))
end
section
variable {X:Cx}{pos:Pos}
noncomputable def CK (K:PySem.W.Frag)(n:Nat)(t:TGs):TG:=λv σ H Q=>∃ a xs,v = .ref a/\bu K H a xs/\xs.length=n/\t xs σ H Q
theorem zI {es:List Expr}{k:Nat}{t:TGs}{n:Nat}(hc:X.calm=true)(h:DD X es t)
 (hn:(assignEach es X.env).length=n:=by rfl)(HJ:(assignEach es X.env).findIdx? (·.1)=none:=by rfl):PG X (.Tuple es k pos) (CK X.K n t):=by
 intro pins s σ H v u Q I r hw;obtain ⟨a,xs,e1,hq,hl,hw⟩:=hw;subst e1
 cases r
 obtain ⟨its,rv,ht,hz⟩:=I.list hq;refine gN (I.ok.hd hc) ht.isList (by simp [hn,<-hl,rv.length]) HJ λh' hx=>?_;have I1:Inv X pins σ H { s with heap:=h' }:=I.kept (t':=s.toks) λb o e=>hx b o (Nat.ne_of_lt (Heap.lt_size e)) e;exact h pins _ σ H xs _ Q I1 (by simpa using rv) hw
end
end L2
namespace K06
open PySem L2 PySem.W Nm Srt
noncomputable abbrev Au:Stmt:=(aZ 52)
section
variable {C CF UN s s':Addr}{H:Hp}{p:Int}{a b:List Tm}{m m':Nat}{Q:VK}{E:XK}
theorem cy (S:SumR C CF H s p a)(S':SumR C CF H s' p b)(hp:FP p)(la:Lv p m 32 a)(lb:Lv p m' 32 b)(hm:m + m' + 12<=4000)
 (q:∀ H' u,aB H H'->SumR C CF H' u p (tg p (cG p a b))->Q (.ref u) H'):lC C CF UN [.ref s,.ref s'] H Q E :=
 ⟨s,s',p,p,a,b,rfl,S,S',hp,Nat.lt_of_le_of_lt (Nat.mul_le_mul la.len lb.len) (by decide),la.gn hp (by omega) (by decide),λ_=>⟨lb.gn hp (by omega) (by decide),(la.mul lb hp).gth hp hm (by decide),q⟩,λz=>absurd rfl z⟩
theorem gX (S:SumR C CF H s p a)(S':SumR C CF H s' p b)(hp:FP p)(la:Lv p m 32 a)(lb:Lv p m' 32 b)(hm:m + m' + 13<=4000)
 (q:∀ H' u,aB H H'->SumR C CF H' u p (tg p (a++b))->Q (.ref u) H'):ll C CF UN [.ref s,.ref s'] H Q E :=
 ⟨s,s',p,p,a,b,rfl,S,S',hp,Nat.lt_of_le_of_lt (Nat.add_le_add la.len lb.len) (by decide),λ_=>⟨(la.app lb).gth hp (by omega) (by decide),q⟩,λz=>absurd rfl z⟩
theorem SumR.hd (S:SumR C CF H s p a):∃ dx fl D,H s=some (.ins C dx (pG fl D)):=by
 obtain ⟨dx,fl,Fg,D,zs,h,_⟩:=S.ex;exact ⟨dx,_,_,h⟩
theorem tZ {K:Frag}{mg:Str->Option Value}(c:SumQ K mg C)(S:SumR C CF H s p a)(S':SumR C CF H s' p a){X:XK}(q:Q (.bl false) H):qI K C (wA K C CF) X true (.ref s) (.ref s') H Q:=by
 obtain ⟨dx,_,_,h⟩:=S.hd;obtain ⟨Nt,_,_,h'⟩:=S'.hd;refine ⟨s,dx,_,.ref C,rfl,h,c.ty h',ni,s,p,a,.ref s',rfl,S,.inl ⟨s',p,a,rfl,S',_,rfl,?_⟩⟩;rw [dS];simpa using q
end
theorem FP.good {p:Int}(h:FP p):good (.int p)=true:=by
 show iT p=true;unfold iT
 rcases h with h | h
 ·rw [h]; rfl
 ·have:(primes.any λq=>q == p)=true:=by
   rw [List.any_eq_true];exact ⟨p,h,by simp⟩
  rw [this];simp
theorem gs {CF Hr fl Fg:Addr}{p:Int}{H:Hp}{Q:Hp->Prop}{E:XK}(hf:H fl=none)(hd:H Fg=none)(ne:Fg≠fl)(hp:FP p)(q:∀ H',aB H H'->H' fl=some (.ins CF Fg (eI p))->Q H'):
 qu CF Hr [.ref fl,.int p] (upd (upd H Fg (.own fl)) fl (.ins CF Fg [])) (λv H2=>v = .non/\Q H2) E:=by
 refine ⟨fl,Fg,.int p,"int",rfl,.int p,ah,λ_=>⟨rfl,?_⟩,λg=>by rw [hp.good] at g; cases g⟩;rw [sN];exact q _ ((av hd).trans (av (by rw [ao (Ne.symm ne)]; exact hf))) ah
structure AllB (P:Program)(w:World)(K:Frag)(mg:Str->Option Value)(base:Heap)(C CF Hr UN NN fI HA:Addr)(Gi FJ:FuncData):Prop where
 c:SumQ K mg C
 cF:FieldK K mg CF
 M:Mk K C fI
 FI:FnOk P w K mg base (aV P w) 6 fI Gi ["self","field","terms"] (gY C CF)
 bI:L2.aA K Gi ["self","field","terms"] []
 MF:Mk K CF HA
 FFI:FnOk P w K mg base (aV P w) 2 HA FJ ["self","prime"] (qu CF Hr)
 bFFI:L2.aA K FJ ["self","prime"] []
 ne:findIn K (.ref C) "__ne__"=some (some (.builtin "object.__ne__"))
 eq:∃ f fd,FnOk P w K mg base (aV P w) 2 f fd ["self","other"] (wA K C CF)/\L2.aA K fd ["self","other"] []/\findIn K (.ref C) "__eq__"=some (some (.ref f))/\isFn K (.ref f)=true
 gather:∃ f fd,FnOk P w K mg base (aV P w) 4 f fd ["_law_prime_here","_law_terms_here"] spLGath/\L2.aA K fd ["_law_prime_here","_law_terms_here"] []/\mg "_law_gather"=some (.ref f)/\keepIn K (.ref f)=true
 isSum:∃ f fd,FnOk P w K mg base (aV P w) 2 f fd ["_law_one","_law_prime_here","_law_due"] (BB C CF)/\L2.aA K fd ["_law_one","_law_prime_here","_law_due"] []/\mg "_law_is_sum"=some (.ref f)/\keepIn K (.ref f)=true
 mult:∃ f fd,FnOk P w K mg base (aV P w) 5 f fd ["_law_prime_here","_law_one","_law_other"] spLM/\L2.aA K fd ["_law_prime_here","_law_one","_law_other"] []/\mg "_law_mult"=some (.ref f)/\keepIn K (.ref f)=true
 plus:∃ f fd,FnOk P w K mg base (aV P w) 9 f fd ["self","other"] (ll C CF UN)/\L2.aA K fd ["self","other"] []/\L2.Meth K C "plus" f
 times:∃ f fd,FnOk P w K mg base (aV P w) 9 f fd ["self","other"] (lC C CF UN)/\L2.aA K fd ["self","other"] []/\L2.Meth K C "times" f
noncomputable def xq (CF:Addr):Sp:=λvs H Q _=>∃ (fl Fg la lb:Addr)(p:Int)(ys us:List V)(a b:List Tm),vs=[.ref fl,.int p,.ref la,.ref lb]/\H fl=some (.ins CF Fg (eI p))/\FP p/\H la=some (.lst ys)/\aH H ys a/\Lv p 320 6 a/\H lb=some (.lst us)/\aH H us b/\Lv p 320 6 b/\∀ H',aB H H'->Q (.bl true) H'
theorem yz:FnScope ["_law_field","_law_prime_here","_law_one","_law_other","_law_first","_law_second"] ["_law_field","_law_prime_here","_law_one","_law_other"] (aq Au):=dX (by decide +kernel)
variable {P:Program}{w:World}{K:PySem.W.Frag}{mg:Str->Option Value}{base:Heap}
set_option maxHeartbeats 1000000 in
theorem zh {f C CF Hr UN NN fI HA:Addr}{fd Gi FJ:FuncData}(F:Fun K "_law_both" "_law_both" Au f fd)(W:AllB P w K mg base C CF Hr UN NN fI HA Gi FJ):
 FnOk P w K mg base (aV P w) 10 f fd ["_law_field","_law_prime_here","_law_one","_law_other"] (xq CF):=by
 refine F.okN yz (λvs H Q E h=>?_) (λFb A outer s H vs Q E hr h=>?_)
 ·obtain ⟨fl,Fg,la,lb,p,ys,us,a,b,rfl,_⟩:=h;rfl
 ·obtain ⟨fl,Fg,la,lb,p,ys,us,a,b,rfl,hf,hp,FY,FR,La,Jf,Hl,Lb,q⟩:=h;obtain ⟨fe,LI,FE,bE,nE,iE⟩:=W.eq;obtain ⟨fg,Gq,FG,bG,mG,kG⟩:=W.gather;obtain ⟨fs,Jw,FI,bI,mI,kI⟩:=W.isSum;obtain ⟨fm,MN,Ui,Uj,Uk,Ul⟩:=W.mult;obtain ⟨fpl,aaC,IZ,Ja,Jb⟩:=W.plus;obtain ⟨fti,aaD,Gv,Gw,Gx⟩:=W.times;have FD:Room 9 _:=hr;have Jh:Room 7 _:=FD.mono (by decide);have JX:Room 5 _:=FD.mono (by decide);have GP:Room 4 _:=FD.mono (by decide);have Gg:Room 3 _:=FD.mono (by decide);have FQ:Room 2 _:=FD.mono (by decide)
  refine ⟨_,(ak (rD (i:=4) (j:=5) rfl yz.nd rfl rfl (by decide) rfl rfl (@ai _ _ _ _ _ (cT W.M W.FI Jh (by rfl) W.c.c.mgC W.bI .nil ae (@ai _ _ _ _ _ (pv 0) (@ai _ _ _ _ _ (pv 2) af rfl) rfl)) (@ai _ _ _ _ _ (cT W.M W.FI Jh (by rfl) W.c.c.mgC W.bI .nil ae (@ai _ _ _ _ _ (cT W.MF W.FFI Gg (by rfl) W.cF.mgC W.bFFI .nil ae (@ai _ _ _ _ _ (pv 1) af rfl)) (@ai _ _ _ _ _ (pv 3) af rfl) rfl)) af rfl) rfl) rfl)
   (ak (bg (bU (b9 (ax FI FQ (by rfl) mI kI bI .nil ae (@ai _ _ _ _ _ (aX (pv 4) W.c.c.cl Jb IZ FD Ja .nil ae (@ai _ _ _ _ _ (pv 5) af rfl)) (@ai _ _ _ _ _ (pv 1) (@ai _ _ _ _ _ (ax FG GP (by rfl) mG kG bG .nil ae (@ai _ _ _ _ _ (pv 1) (@ai _ _ _ _ _ (@aJ _ _ _ _ _ _ _ _ xX (pv 2) (pv 3)) af rfl) rfl)) af rfl) rfl) rfl)))) (ar (az cU)) aD)
   (ak (bg (bU (b9 (ax FI FQ (by rfl) mI kI bI .nil ae (@ai _ _ _ _ _ (aX (pv 4) W.c.c.cl Gx Gv FD Gw .nil ae (@ai _ _ _ _ _ (pv 5) af rfl)) (@ai _ _ _ _ _ (pv 1) (@ai _ _ _ _ _ (ax Ui JX (by rfl) Uk Ul Uj .nil ae (@ai _ _ _ _ _ (pv 1) (@ai _ _ _ _ _ (pv 2) (@ai _ _ _ _ _ (pv 3) af rfl) rfl) rfl)) af rfl) rfl) rfl)))) (ar (az cU)) aD)
   (ak (bg (PW.pt (gh (@aQ _ _ _ _ _ _ _ _ (hZ nE iE W.ne W.c.ob FE Gg bE ae) (aX (pv 4) W.c.c.cl Gx Gv FD Gw .nil ae (@ai _ _ _ _ _ (pv 5) af rfl)) (aX (pv 5) W.c.c.cl Gx Gv FD Gw .nil ae (@ai _ _ _ _ _ (pv 4) af rfl)) (aI _)) (fL (@aQ _ _ _ _ _ _ _ _ (hZ nE iE W.ne W.c.ob FE Gg bE ae) (aX (pv 4) W.c.c.cl Jb IZ FD Ja .nil ae (@ai _ _ _ _ _ (pv 5) af rfl)) (aX (pv 5) W.c.c.cl Jb IZ FD Ja .nil ae (@ai _ _ _ _ _ (pv 4) af rfl)) (aI _))))) (ar (az cU)) aD)
   (ak (bg (bU (b9 (ax FI FQ (by rfl) mI kI bI .nil ae (@ai _ _ _ _ _ (pv 4) (@ai _ _ _ _ _ (pv 1) (@ai _ _ _ _ _ (ax FG GP (by rfl) mG kG bG .nil ae (@ai _ _ _ _ _ (pv 1) (@ai _ _ _ _ _ (pv 2) af rfl) rfl)) af rfl) rfl) rfl)))) (ar (az cU)) aD)
   (ar (az (ax FI FQ (by rfl) mI kI bI .nil ae (@ai _ _ _ _ _ (pv 5) (@ai _ _ _ _ _ (pv 1) (@ai _ _ _ _ _ (ax FG GP (by rfl) mG kG bG .nil ae (@ai _ _ _ _ _ (pv 1) (@ai _ _ _ _ _ (pv 3) af rfl) rfl)) af rfl) rfl) rfl))))))))),?_⟩
  refine ⟨_,rfl,_,rfl,λx1 Jz SK N2 ne1=>?_⟩;refine dO SK N2 ne1 hf hp FY FR (La.gth hp (by decide) (by decide)) La.prd λH1 s1 S1=>?_;refine ⟨_,rfl,λf2 df2 N3 Iw Um=>?_⟩;refine gs N3 Iw Um hp λH2 s2 e2=>?_;have GZ:=s1.trans s2;refine ⟨_,rfl,λx3 dx3 Jd Iy ne3=>?_⟩;refine dO Jd Iy ne3 e2 hp (GZ _ _ Jf) (aH.keep Hl (ay.of GZ)) (Lb.gth hp (by decide) (by decide)) Lb.prd λH3 s3 S3=>?_;have Gd:=GZ.trans s3;have S1:=S1.same (s2.trans s3);clear SK N2 N3 Iw Jd Iy e2 s1 s2 s3 GZ;have Ta:=La.tg hp (by decide);have Tb:=Lb.tg hp (by decide);refine ⟨_,_,rfl,?_⟩;obtain ⟨d1,_,_,h1⟩:=S1.hd;obtain ⟨d3,_,_,h3⟩:=S3.hd;refine ⟨_,rfl,x1,d1,_,rfl,h1,rfl,_,rfl,?_⟩;dsimp only [tNil];refine gX S1 S3 hp Ta Tb (by decide) λH4 u s4 S4=>?_;have Gy:=Gd.trans s4;rw [yH hp La.num Lb.num] at S4;refine ⟨_,rfl,_,rfl,_,rfl,_,rfl,la,lb,ys,us,rfl,rfl,Gy _ _ FY,Gy _ _ Jf,?_,λl hl=>?_⟩
  ·rw [FR.length,Hl.length];exact Nat.le_trans (Nat.add_le_add La.len Lb.len) (by decide)
  have s5:=av (o:=.lst (ys++us)) hl;have e5:upd H4 l (.lst (ys++us)) l=some (.lst (ys++us)):=ah;generalize upd H4 l _=H5 at s5 e5 |-;have LS:=Gy.trans s5;refine ⟨l,p,ys++us,a++b,rfl,hp,e5,j4 (aH.keep FR (ay.of LS)) (aH.keep Hl (ay.of LS)),(La.app Lb).gth hp (by decide) (by decide),λH6 D zs s6 hD hz=>?_⟩;refine ⟨u,D,p,_,zs,rfl,S4.same (s5.trans s6),hD,hz,λH7 s7=>⟨_,rfl,bF ?_⟩⟩;have J5:=s4.trans (s5.trans (s6.trans s7));have Uo:=Gd.trans J5;have S1:=S1.same J5;have S3:=S3.same J5;have h1:=J5 _ _ h1;have h3:=J5 _ _ h3;clear Gd Gy LS s4 s5 s6 s7 J5 S4 hD hz e5 hl;refine ⟨_,rfl,x1,d1,_,rfl,h1,rfl,_,rfl,?_⟩;dsimp only [tNil];refine cy S1 S3 hp Ta Tb (by decide) λH8 u s8 S8=>?_;have N4:=Uo.trans s8;rw [pL hp La.num Lb.num] at S8;refine ⟨_,rfl,_,rfl,_,rfl,_,rfl,p,la,lb,ys,us,a,b,rfl,hp,N4 _ _ FY,aH.keep FR (ay.of N4),N4 _ _ Jf,aH.keep Hl (ay.of N4),Nat.lt_of_le_of_lt (Nat.mul_le_mul La.len Lb.len) (by decide),La.gn hp (by decide) (by decide),Lb.gn hp (by decide) (by decide),(La.mul Lb hp).gth hp (by decide) (by decide),λH9 D zs s9 hD hz=>?_⟩;refine ⟨u,D,p,_,zs,rfl,S8.same s9,hD,hz,λH10 HM=>⟨_,rfl,bF ?_⟩⟩;have HB:=s8.trans (s9.trans HM);have N5:=Uo.trans HB;have S1:=S1.same HB;have S3:=S3.same HB;have h1:=HB _ _ h1;have h3:=HB _ _ h3;clear Uo N4 s8 s9 HM HB S8 hD hz;refine ⟨_,rfl,x1,d1,_,rfl,h1,rfl,_,rfl,?_⟩;dsimp only [tNil];refine cy S1 S3 hp Ta Tb (by decide) λH11 u1 HP Hs=>?_;refine ⟨_,rfl,x3,d3,_,rfl,HP _ _ h3,rfl,_,rfl,?_⟩;dsimp only [tNil];refine cy (S3.same HP) (S1.same HP) hp Tb Ta (by decide) λH12 u2 J6 GR=>?_;rw [rj hp Tb.num Ta.num] at GR;refine tZ W.c (Hs.same J6) GR ⟨_,rfl,bF ?_⟩;have GG:=HP.trans J6;refine ⟨_,rfl,x1,d1,_,rfl,GG _ _ h1,rfl,_,rfl,?_⟩;dsimp only [tNil];refine gX (S1.same GG) (S3.same GG) hp Ta Tb (by decide) λH13 u3 MR RP=>?_;have Fs:=GG.trans MR;refine ⟨_,rfl,x3,d3,_,rfl,Fs _ _ h3,rfl,_,rfl,?_⟩;dsimp only [tNil];refine gX (S3.same Fs) (S1.same Fs) hp Tb Ta (by decide) λH14 u4 JB N6=>?_;rw [uf hp Tb.num Ta.num] at N6;refine tZ W.c (RP.same JB) N6 ⟨_,rfl,bF ?_⟩;have Ht:=Fs.trans JB;have LW:=N5.trans Ht;have S1:=S1.same Ht;have S3:=S3.same Ht;clear N5 HP J6 MR JB GG Fs Ht Hs GR RP N6 h1 h3;refine ⟨_,rfl,_,rfl,_,rfl,_,rfl,la,p,ys,a,rfl,hp,LW _ _ FY,aH.keep FR (ay.of LW),La.gth hp (by decide) (by decide),λH15 D zs LX hD hz=>?_⟩;refine ⟨x1,D,p,_,zs,rfl,S1.same LX,hD,hz,λH16 Uq=>⟨_,rfl,bF ?_⟩⟩;have J7:=LX.trans Uq;have LY:=LW.trans J7;refine ⟨_,rfl,_,rfl,_,rfl,_,rfl,lb,p,us,b,rfl,hp,LY _ _ Jf,aH.keep Hl (ay.of LY),Lb.gth hp (by decide) (by decide),λXp D' Xm RQ ND RB=>?_⟩;exact ⟨x3,D',p,_,Xm,rfl,S3.same (J7.trans RQ),ND,RB,λXq Ur=>q _ (LY.trans (RQ.trans Ur))⟩
end K06
namespace L2
open PySem PySem.Spec PyProof.Rows PySem.W
noncomputable def rA (r:Addr)(H H':Hp):Prop:=∀ b o,H b=some o->b≠r->H' b=some o
section
variable {cs:List (Addr × Obj)}{H1 H2:Hp}
theorem zm (hc:∀ c o,cs.lookup c=some o->H1 c=none):dG cs (c5 cs H1)=H1:=by
 funext b
 cases q:cs.lookup b with
 | some o=>rw [d9 q,hc b o q]
 | none=>rw [bJ q,bh q]
theorem mE (hc:∀ c o,cs.lookup c=some o->H1 c=none){b:Addr}{v:HO}(e:H1 b=some v):cs.lookup b=none:=by
 cases q:cs.lookup b with
 | none=>rfl
 | some o=>rw [hc b o q] at e; cases e
theorem ye (hc:∀ c o,cs.lookup c=some o->H1 c=none)(S:aB (c5 cs H1) H2):aB H1 (dG cs H2):=λb v e=>by
 rw [bJ (mE hc e)];exact S b v (by rw [bh (mE hc e)]; exact e)
theorem wd (S:aB H1 H2):aB (c5 cs H1) (c5 cs H2):=λb v e=>by
 cases q:cs.lookup b with
 | some o =>
   rw [je q] at e |-;exact e
 | none =>
   rw [bh q] at e |-;exact S b v e
theorem xA {H:Hp}:dM cs (c5 cs H):=λb v e=>je e
end
theorem i8 {pos:Pos}{a b:Int}{c:Value}(l:List Value)(h:TriplesOk l)(hn:¬ (a=pos.line/\b=pos.col)):codeAmong pos (l++[rawInt a,rawInt b,c])=codeAmong pos l:=by
 fun_induction TriplesOk l with
 | case1 =>
   show (if (a == (pos.line:Int)&&b == (pos.col:Int))=true then some c else codeAmong pos [])=codeAmong pos [];rw [if_neg (by simpa using hn)]
 | case2 a' t b' u x rest ih =>
   simp only [List.cons_append,codeAmong];rw [ih h]
 | case3=>exact h.elim
noncomputable def jl (ls:List Pos)(q:Str)(Pt:Addr)(H:Hp):Prop:=∃ ps,H Pt=some (.tbl ps)/\TriplesOk ps.toList/\∀ pos∈ls,codeAmong pos ps.toList=none\/∃ c' oc,codeAmong pos ps.toList=some (.ref c')/\H c'=some (cN c' oc)/\di q oc
theorem jl.same {ls:List Pos}{q:Str}{Pt:Addr}{H H':Hp}(h:jl ls q Pt H)(S:aB H H'):jl ls q Pt H':=by
 obtain ⟨ps,h1,h2,h3⟩:=h;refine ⟨ps,S _ _ h1,h2,λpos hp=>?_⟩
 rcases h3 pos hp with z | ⟨c',oc,a,b,c⟩
 ·exact .inl z
 ·exact .inr ⟨c',oc,a,S _ _ b,c⟩
theorem jl.but {ls:List Pos}{q:Str}{Pt r:Addr}{H H':Hp}{l:List V}(h:jl ls q Pt H)(hr:H r=some (.lst l))(S:rA r H H'):jl ls q Pt H':=by
 have n1:∀ b ps,H b=some (.tbl ps)->b≠r:=λb ps e z=>by rw [z,hr] at e; cases e
 have n2:∀ b oc,H b=some (cN b oc)->b≠r:=λb oc e z=>by rw [z,hr] at e; cases e
 obtain ⟨ps,h1,h2,h3⟩:=h;refine ⟨ps,S _ _ h1 (n1 _ _ h1),h2,λpos hp=>?_⟩
 rcases h3 pos hp with z | ⟨c',oc,a,b,c⟩
 ·exact .inl z
 ·exact .inr ⟨c',oc,a,S _ _ b (n2 _ _ b),c⟩
theorem ql {X:Cx}{JC:Arguments}{body:Expr}{sc:Scope}{pos:Pos}{ls:List Pos}{lq:Str}{Pt:Addr}{σ:St}{H:Hp}{Q:VK}(Jq:pos∈ls)(hd:∀ p∈ls,∀ p'∈ls,((p.line:Int)=p'.line/\(p.col:Int)=p'.col)->p=p')(hq:X.env.qual++"<lambda>"=lq)(tb:jl ls lq Pt H)
 (q:∀ (H7:Hp)(f c':Addr)(oc:Obj)(ctv:Value),H7 f=some (cN f (fK X JC body sc c' ctv))->H7 c'=some (cN c' oc)->di lq oc->rA Pt H H7->jl ls lq Pt H7->Q (.ref f) H7):Ds X JC body sc pos Pt σ H Q:=by
 obtain ⟨ps,hP,hT,FX⟩:=id tb;refine ⟨ps,hP,hT,?_⟩
 rcases FX pos Jq with hn | ⟨c',oc,hm,Fi,Fy⟩
 ·refine .inl ⟨hn,λc' f oc ctv Fi hf Ft Fy=>?_⟩;rw [hq] at Fy
  have kp:∀ b u,H b=some u->b≠Pt->(upd (upd (upd H Pt (.tbl (ps++#[rawInt pos.line,rawInt pos.col,.ref c']))) c' (cN c' oc)) f (cN f (fK X JC body sc c' ctv))) b=some u:=λb u e n=>by
   rw [ao (au e hf),ao (au e Fi),ao n];exact e
  refine q _ f c' oc ctv ah (by rw [ao Ft,ah]) Fy kp ⟨_,by rw [ao (au hP hf),ao (au hP Fi),ah],by rw [Array.toList_append]; exact TriplesOk_snoc _ _ _ _ hT,λpos' J8=>?_⟩;rw [Array.toList_append]
  by_cases e:pos'=pos
  ·subst e;exact .inr ⟨c',oc,codeAmong_snoc _ hT hn,by rw [ao Ft,ah],Fy⟩
  ·have ne:¬ ((pos.line:Int)=pos'.line/\(pos.col:Int)=pos'.col):=λz=>e (hd _ Jq _ J8 z).symm;rw [show (#[rawInt pos.line,rawInt pos.col,Value.ref c']:Array Value).toList=[rawInt pos.line,rawInt pos.col,Value.ref c'] from rfl,i8 _ hT ne]
   rcases FX pos' J8 with z | ⟨c2,oc2,a,b,c⟩
   ·exact .inl z
   ·exact .inr ⟨c2,oc2,a,kp _ _ b (λz=>by rw [z,hP] at b; cases b),c⟩
 ·refine .inr ⟨c',oc,hm,Fi,by rw [hq]; exact Fy,λf ctv hf=>?_⟩
  have S:aB H (upd H f (cN f (fK X JC body sc c' ctv))):=λb u e=>by rw [ao (au e hf)]; exact e
  exact q _ f c' oc ctv ah (S _ _ Fi) Fy (λb u e _=>S b u e) (tb.same S)
theorem iF {a b:V}{os:List Obj}(r:Paired iM [a,b] os):∃ o1 o2,os=[o1,o2]/\iM a o1/\iM b o2:=by
 cases r with
 | cons r1 r =>
   cases r with
   | cons r2 r =>
     cases r
     exact ⟨_,_,rfl,r1,r2⟩
section
variable {P:Program}{w:World}{K:Frag}{mg:Str->Option Value}{base:Heap}{qual name y1 y2:Str}{scope:Scope}{f c' c1 c2:Addr}{params:Arguments}{body:Expr}{pm ctv:Value}{k:Nat}{v1 v2:V}{o1 o2 oc:Obj}
theorem gw {φ0:Hp->VK->XK->Prop}(F1:bindArgs (kla_fn name qual params body scope [(y2,c2),(y1,c1)] pm (.ref c') ctv) ⟨[],[]⟩=pure [])(hk:scope.kind = .function)(Lo:scope.isCoroutine=false)(HY:scope.isGenerator=false)(Fu:∀ x∈scope.names,x.2 ≠ .cell)
 (Fz:∀ q∈scope.names,q.2 = .free->q.1=y1\/q.1=y2)(f1:scope.names.lookup y1=some .free)(f2:scope.names.lookup y2=some .free)(hy:(y1 == y2)=false)
 (r1:iM v1 o1)(r2:iM v2 o2)(JD:c1≠c2)(Fy:di qual oc)
 (Fp:∀ (A:Around)(outer:List Env)(s:Shared)(H:Hp)(Q:VK)(E:XK),Room k (A.deeper (envX qual scope s.heap.objs.size f (.ref c') [(y2,c2),(y1,c1)]))->φ0 H Q E->∃ t,PE (C3 P w K mg base [y1,y2] qual scope f (.ref c') [(y2,c2),(y1,c1)] A outer s H E) body t/\t [some v1,some v2] H Q):
 tY P w K mg base (k + 1) f (Jv f c' (kla_obj name qual params body scope [(y2,c2),(y1,c1)] pm c' ctv) oc [(c1,o1),(c2,o2)] φ0):=by
 obtain ⟨u1,r1,h1⟩:=r1;obtain ⟨u2,r2,h2⟩:=r2
 have l1:([(c1,o1),(c2,o2)]:List (Addr × Obj)).lookup c1=some o1:=by simp
 have l2:([(c1,o1),(c2,o2)]:List (Addr × Obj)).lookup c2=some o2:=by
  rw [List.lookup_cons]
  have z:(c2 == c1)=false:=by simpa using Ne.symm JD
  rw [z];simp
 have k1:([(y2,c2),(y1,c1)]:List (Str × Addr)).lookup y1=some c1:=by
  rw [List.lookup_cons,hy];simp
 have k2:([(y2,c2),(y1,c1)]:List (Str × Addr)).lookup y2=some c2:=by simp
 have nm:∀ y d,([(y2,c2),(y1,c1)]:List (Str × Addr)).lookup y=some d->(y=y1/\d=c1)\/(y=y2/\d=c2):=λy d e=>by
  have m:=PySem.mem_of_lookup e;simp at m
  rcases m with m | m
  ·exact .inr m
  ·exact .inl m
 refine uK (N:=[y1,y2]) (vs:=[v1,v2]) (k:=k) F1 hk Lo HY Fu (λy SY=>?_) (λy z d e1 e2=>?_) Fy (λy d e=>?_) (λi y v e1 e2=>?_) rfl Fp
 ·rcases Fz _ (PySem.mem_of_lookup SY) rfl with z | z
  ·have z:y=y1:=z;subst z;exact ⟨c1,k1⟩
  ·have z:y=y2:=z;subst z;exact ⟨c2,k2⟩
 ·rcases nm y d e1 with ⟨a,b⟩ | ⟨a,b⟩ <;> rcases nm z d e2 with ⟨a',b'⟩ | ⟨a',b'⟩
  ·rw [a,a']
  ·exact absurd (b.symm.trans b') JD
  ·exact absurd (b'.symm.trans b) JD
  ·rw [a,a']
 ·rcases nm y d e with ⟨a,b⟩ | ⟨a,b⟩
  ·exact ⟨o1,_,by rw [b]; exact l1,h1⟩
  ·exact ⟨o2,_,by rw [b]; exact l2,h2⟩
 ·match i,e1,e2 with
  | 0,e1,e2 =>
    cases e1
    cases e2
    exact ⟨f1,c1,o1,u1,k1,l1,h1,r1⟩
  | 1,e1,e2 =>
    cases e1
    cases e2
    exact ⟨f2,c2,o2,u2,k2,l2,h2,r2⟩
  | i + 2,e1,e2=>simp at e1
noncomputable def lK (φ:Hp->VK->XK->Prop):Prop:=∀ (H:Hp)(Q Q':VK)(E E':XK),(∀ v H',Q v H'->Q' v H')->(∀ cls d H',E cls d H'->E' cls d H')->φ H Q E->φ H Q' E'
theorem jH {fo:Obj}{cs:List (Addr × Obj)}{φ0:Hp->VK->XK->Prop}(m:lK φ0):lK (Jv f c' fo oc cs φ0):=by
 intro H Q Q' E E' hQ hE h;obtain ⟨g1,g2,g3,g4⟩:=h;exact ⟨g1,g2,g3,m _ _ _ _ _ (λv H' q=>hQ _ _ q) (λc d H' q=>hE _ _ _ q) g4⟩
theorem nC {fo:Obj}{φ0:Hp->VK->XK->Prop}{H7:Hp}{Q:VK}{E:XK}(hf:H7 f=some (cN f fo))(Fi:H7 c'=some (cN c' oc))(z:∀ c∈[c1,c2],H7 c=none)
 (h:φ0 H7 (λv H'=>Q v (c5 [(c1,o1),(c2,o2)] H')) λcls d H'=>E cls d (c5 [(c1,o1),(c2,o2)] H')):Jv f c' fo oc [(c1,o1),(c2,o2)] φ0 (c5 [(c1,o1),(c2,o2)] H7) Q E:=by
 have hc:∀ c o,([(c1,o1),(c2,o2)]:List (Addr × Obj)).lookup c=some o->H7 c=none:=λc o e=>by
  have m:=dH e;simp at m
  rcases m with ⟨a,_⟩ | ⟨a,_⟩ <;> rw [a] <;> exact z _ (by simp)
 refine ⟨by rw [bh (mE hc hf)]; exact hf,by rw [bh (mE hc Fi)]; exact Fi,xA,?_⟩;rw [zm hc];exact h
theorem zW {H7 H8:Hp}(z:∀ c∈[c1,c2],H7 c=none)(S:aB (c5 [(c1,o1),(c2,o2)] H7) H8):dM [(c1,o1),(c2,o2)] H8/\aB H7 (dG [(c1,o1),(c2,o2)] H8):=by
 have hc:∀ c o,([(c1,o1),(c2,o2)]:List (Addr × Obj)).lookup c=some o->H7 c=none:=λc o e=>by
  have m:=dH e;simp at m
  rcases m with ⟨a,_⟩ | ⟨a,_⟩ <;> rw [a] <;> exact z _ (by simp)
 exact ⟨λb v e=>S b _ (je e),ye hc S⟩
end
end L2
namespace K06
open PySem L2 PySem.W
noncomputable abbrev sR:Stmt:=aZ 50
structure Refs (K:Frag)(mg:Str->Option Value)(FE NN NS UN:Addr):Prop where
 mFE:mg "FalseError"=some (.ref FE)
 mNN:mg "NoNumber"=some (.ref NN)
 mNS:mg "NoSum"=some (.ref NS)
 mUN:mg "Unlike"=some (.ref UN)
 mVE:mg "ValueError"=none
 kNN:ExcK K NN
 kUN:ExcK K UN
 xNN:exmOne K (.ref NN) (.ref FE)=some true
 xUN:exmOne K (.ref UN) (.ref FE)=some true
 a1:kitOne K (.ref NN) (.ref NN)=some true
 a2:kitOne K (.ref NN) (.ref NS)=some false
 a3:kitOne K (.ref NN) (.ref UN)=some false
 a4:kitOne K (.ref NN) (.type "ValueError")=some true
 b1:kitOne K (.ref UN) (.ref NN)=some false
 b2:kitOne K (.ref UN) (.ref NS)=some false
 b3:kitOne K (.ref UN) (.ref UN)=some true
 b4:kitOne K (.ref UN) (.type "ValueError")=some true
noncomputable def ka (P:Program)(w:World)(K:Frag)(mg:Str->Option Value)(base:Heap)(kk:Nat)(NN UN:Addr):Sp:=λvs H Q _=>∃ (f:Addr)(φ:Hp->VK->XK->Prop),vs=[.ref f]/\tY P w K mg base kk f φ/\lK φ /\
 φ H (λ_ H'=>Q (.str "told") H') λcls d H'=>d=none/\((cls = .ref NN/\∀ HN,aB H' HN->Q (.str "number") HN)\/(cls = .ref UN/\∀ HN,aB H' HN->Q (.str "unlike") HN))
variable {P:Program}{w:World}{K:PySem.W.Frag}{mg:Str->Option Value}{base:Heap}
theorem jM:FnScope ["_law_call","_law_kept","e","_law_kinds"] ["_law_call"] (aq sR):=dX (by decide +kernel)
theorem zL {f FE NN NS UN:Addr}{fd:FuncData}{kk:Nat}(F:Fun K "_law_kind" "_law_kind" sR f fd)(R:Refs K mg FE NN NS UN)(E8:mg "isinstance"=none):FnOk P w K mg base (aV P w) (kk + 1) f fd ["_law_call"] (ka P w K mg base kk NN UN):=by
 refine F.okN jM (λvs H Q E h=>?_) (λFb A outer s H vs Q E hr h=>?_)
 ·obtain ⟨f,φ,rfl,_⟩:=h;rfl
 ·obtain ⟨g,φ,rfl,C,mono,q⟩:=h
  refine ⟨_,ak (aY (i:=1) jM.nd rfl (Or.inl rfl) qX)
   (ak (BV (i:=2) rfl rfl jM.nd rfl rfl (by rfl) R.mFE (λpins E'=>ar (m8 (show PE (Cx.tr (fB (aV P w) P w K mg base ["_law_call","_law_kept","e","_law_kinds"] "_law_kind" (aq sR) f Fb A outer s H E).nox pins E') _ (wU P w K mg base kk 0 E') from yq (X:=(Cx.tr (fB (aV P w) P w K mg base ["_law_call","_law_kept","e","_law_kinds"] "_law_kind" (aq sR) f Fb A outer s H E).nox pins E')) (E:=E') (i:=0) hr qA (pv 0)))) (λa=>ar (aY (i:=1) jM.nd rfl (Or.inl rfl) (pv 2))))
   (ak (bg (xb (A1 (pv 1))) (ar (az cY)) aD)
   (ak (aY (i:=3) jM.nd rfl (Or.inl rfl) (cW
    (aO (aF aR (by rfl) E8 (by rfl) (aO (pv 1) (aO (cL (by rfl) R.mNN (show aC (.ref NN) (.ref NN) from rfl)) af)))
    (aO (aF aR (by rfl) E8 (by rfl) (aO (pv 1) (aO (cL (by rfl) R.mNS (show aC (.ref NS) (.ref NS) from rfl)) af)))
    (aO (aF aR (by rfl) E8 (by rfl) (aO (pv 1) (aO (cL (by rfl) R.mUN (show aC (.ref UN) (.ref UN) from rfl)) af))) af)))))
   (ak (bg (PW.pt (gh (aQ gm (sM PySem.F.plainAttrs_list PySem.F.slot_list_count PySem.F.type_list_count x8 (pv 3) (aO cU af)) aj (aI _))
    (fL (bU (b9 (aF aR (by rfl) E8 (by rfl) (aO (pv 1) (aO (dh (by rfl) R.mVE (by rfl) (show aC (.ty "ValueError") (.type "ValueError") from rfl)) af)))))))) (ar (az cY)) aD)
   (ar (az (aS bA (cW (aO cY (aO cY (aO cY af)))) (sM PySem.F.plainAttrs_list PySem.F.slot_list_index PySem.F.type_list_index xv (pv 3) (aO cU af)) (λ_ _=>rfl)))))))),?_⟩
  refine ⟨g,φ,rfl,C,mono H _ _ _ _ (λv H' z=>?_) (λcls d H' z=>?_) q⟩
  ·-- dW
   exact ⟨_,rfl,_,rfl,cb z⟩
  ·obtain ⟨rfl,z⟩:=z
   rcases z with z | z
   ·obtain ⟨rfl,z⟩:=z;refine ⟨R.xNN,λa ha=>?_⟩;refine ⟨_,rfl,?_⟩;refine ⟨_,rfl,_,rfl,bF ?_⟩;have ea:(upd H' a (kK a (.ref NN))) a=some (kK a (.ref NN)):=ah;have ty:∀ {H2:Hp},aB (upd H' a (kK a (.ref NN))) H2->TyX K H2 (.ref a) (.ref NN):=λS=>.exc (S _ _ ea) R.kNN;refine ⟨_,rfl,.ref a,.ref NN,_,_,_,rfl,rfl,ty (aB.refl _),R.a1,_,rfl,.ref a,.ref NS,_,_,_,rfl,rfl,ty (aB.refl _),R.a2,_,rfl,.ref a,.ref UN,_,_,_,rfl,rfl,ty (aB.refl _),R.a3,by decide,λp hp=>?_⟩;have N7:=av (o:=.lst [V.bl true,V.bl false,V.bl false]) hp;refine ⟨_,rfl,.inl ⟨rfl,_,bu.of ah⟩,p,_,_,rfl,rfl,bu.of ah,by decide,rfl,rfl,_,rfl,bF ?_⟩;refine ⟨_,rfl,.ref a,.ty "ValueError",_,_,_,rfl,rfl,ty N7,R.a4,_,rfl,bF ?_⟩;refine ⟨by decide,λr Iz=>?_⟩
    have FA:p≠r:=λe=>by rw [<-e,ah] at Iz; cases Iz
    refine ⟨_,rfl,.inl ⟨rfl,_,bu.of (by rw [ao FA]; exact ah)⟩,p,_,_,0,rfl,rfl,bu.of (by rw [ao FA]; exact ah),by decide,rfl,⟨_,rfl,rfl⟩,(λi z h e=>by
     omega),by decide,?_⟩
    refine ⟨r,_,_,_,rfl,rfl,bu.of ah,rfl,z _ ?_⟩;exact ((av ha).trans N7).trans (av Iz)
   ·obtain ⟨rfl,z⟩:=z;refine ⟨R.xUN,λa ha=>?_⟩;refine ⟨_,rfl,?_⟩;refine ⟨_,rfl,_,rfl,bF ?_⟩;have ea:(upd H' a (kK a (.ref UN))) a=some (kK a (.ref UN)):=ah;have ty:∀ {H2:Hp},aB (upd H' a (kK a (.ref UN))) H2->TyX K H2 (.ref a) (.ref UN):=λS=>.exc (S _ _ ea) R.kUN;refine ⟨_,rfl,.ref a,.ref NN,_,_,_,rfl,rfl,ty (aB.refl _),R.b1,_,rfl,.ref a,.ref NS,_,_,_,rfl,rfl,ty (aB.refl _),R.b2,_,rfl,.ref a,.ref UN,_,_,_,rfl,rfl,ty (aB.refl _),R.b3,by decide,λp hp=>?_⟩;have N7:=av (o:=.lst [V.bl false,V.bl false,V.bl true]) hp;refine ⟨_,rfl,.inl ⟨rfl,_,bu.of ah⟩,p,_,_,rfl,rfl,bu.of ah,by decide,rfl,rfl,_,rfl,bF ?_⟩;refine ⟨_,rfl,.ref a,.ty "ValueError",_,_,_,rfl,rfl,ty N7,R.b4,_,rfl,bF ?_⟩;refine ⟨by decide,λr Iz=>?_⟩
    have FA:p≠r:=λe=>by rw [<-e,ah] at Iz; cases Iz
    refine ⟨_,rfl,.inl ⟨rfl,_,bu.of (by rw [ao FA]; exact ah)⟩,p,_,_,2,rfl,rfl,bu.of (by rw [ao FA]; exact ah),by decide,rfl,⟨_,rfl,rfl⟩,(λi z h e=>by
     have hi:i=0\/i=1:=by omega
     rcases hi with hi | hi <;> subst hi <;> cases e <;> rfl),by decide,?_⟩
    refine ⟨r,_,_,_,rfl,rfl,bu.of ah,rfl,z _ ?_⟩;exact ((av ha).trans N7).trans (av Iz)
open Nm Srt
noncomputable abbrev e8:Stmt:=(aZ 54)
noncomputable abbrev NW:List Str:=["_law_script","_law_k","_law_room_here","_law_prime_here","_law_field","_law_number_here","_law_odd","_law_one","_law_other","_law_third","_law_first","_law_second","_law_last","_law_parts","_law_far","_law_kind_here"]
theorem dD:FnScope NW ["_law_script"] (aq e8):=dX (by decide +kernel)
noncomputable abbrev XL (P:Program)(w:World)(K:Frag)(mg:Str->Option Value)(base:Heap)(fl:Addr)(Fb:Value)(A:Around)(outer:List Env)(s:Shared)(H0:Hp)(E:XK):Cx:=(fB (aV P w) P w K mg base NW "law" (aq e8) fl Fb A outer s H0 E).nox
noncomputable def xM:List Stmt:=match (bz e8).getD 0 (.Pass ⟨0,0,0,0⟩) with
 | .For _ _ b _ _=>b
 | _=>[]
noncomputable def xK (i:Nat):Expr:=match xM.getD i (.Pass ⟨0,0,0,0⟩) with
 | .If (.Compare (.Call _ (e :: _) _ _) _ _ _) _ _ _=>e
 | _=>.Name "" ⟨0,0,0,0⟩
noncomputable def BH (e:Expr):Scope:=match e with | .Lambda _ _ sc _=>sc | _=>aq e8
noncomputable def lY (e:Expr):Pos:=match e with | .Lambda _ _ _ p=>p | _=>⟨0,0,0,0⟩
noncomputable def qR (e:Expr):Expr:=match e with | .Lambda _ b _ _=>b | _=>.Name "" ⟨0,0,0,0⟩
noncomputable def qT (e:Expr):Arguments:=match e with | .Lambda ps _ _ _=>ps | _=>cg e8
noncomputable abbrev nZ:Expr:=xK 12
noncomputable abbrev nX:Expr:=xK 13
noncomputable abbrev pC:Expr:=xK 15
noncomputable abbrev lqual:Str:="law"++".<locals>."++"<lambda>"
noncomputable def B9:List Pos:=[lY nZ,lY nX,lY pC]
theorem qW:∀ p∈B9,∀ p'∈B9,((p.line:Int)=p'.line/\(p.col:Int)=p'.col)->p=p':=by decide +kernel
noncomputable abbrev qD (Pt:Addr)(H:Hp):Prop:=jl B9 lqual Pt H
noncomputable def Kp (H H':Hp):Prop:=∀ b o,H b=some o->(∀ ps,o ≠ .tbl ps)->H' b=some o
theorem Kp.of {H H':Hp}(s:aB H H'):Kp H H':=λb o e _=>s b o e
theorem Kp.trans {H H1 H2:Hp}(a:Kp H H1)(b:Kp H1 H2):Kp H H2:=λc o e k=>b c o (a c o e k) k
theorem Kp.bt {H H':Hp}{Pt:Addr}{ps:Array Value}(e:H Pt=some (.tbl ps))(s:rA Pt H H'):Kp H H':=λb o h k=>s b o h λz=>by
 rw [z,e] at h;exact k _ (Option.some.inj h).symm
theorem Kp.tup {H H':Hp}(k:Kp H H'):ay H H':=λb xs e=>k b _ e λ_ z=>by cases z
theorem Kp.lst {H H':Hp}(k:Kp H H'){a:Addr}{xs:List V}(e:H a=some (.lst xs)):H' a=some (.lst xs):=k a _ e λ_ z=>by cases z
theorem Kp.ins {H H':Hp}(k:Kp H H'){a C dx:Addr}{fs:List (Str × V)}(e:H a=some (.ins C dx fs)):H' a=some (.ins C dx fs):=k a _ e λ_ z=>by cases z
theorem SumR.kp {C CF:Addr}{H H':Hp}{s:Addr}{p:Int}{ts:List Tm}(h:SumR C CF H s p ts)(k:Kp H H'):SumR C CF H' s p ts:=by
 obtain ⟨dx,fl,Fg,D,zs,h1,h2,h3,h4⟩:=h.ex;exact ⟨dx,fl,Fg,D,zs,k.ins h1,k.ins h2,k.lst h3,aH.keep h4 k.tup⟩
theorem Th.kp {H H':Hp}{x:V}{T:String}(h:Th H x T)(s:Kp H H'):Th H' x T:=by
 cases h with
 | non=>exact .non
 | bl b=>exact .bl b
 | int i=>exact .int i
 | str x=>exact .str x
 | lst e=>exact .lst (s _ _ e λ_ z=>by cases z)
 | tup e=>exact .tup (s _ _ e λ_ z=>by cases z)
 | dK e=>exact .dK (s _ _ e λ_ z=>by cases z)
theorem TX.kp {H H':Hp}{x:V}{o:Option (V × V)}(h:TX H x o)(s:Kp H H'):TX H' x o:=by
 cases h with
 | no th n=>exact .no (th.kp s) n
 | odd e n=>exact .odd (s _ _ e λ_ z=>by cases z) n
 | two e h1 h2=>exact .two (s _ _ e λ_ z=>by cases z) (h1.kp s) (h2.kp s)
theorem qQ {C CF UN:Addr}{vs:List V}:lK (λH Q E=>ll C CF UN vs H Q E):=by
 intro H Q Q' E E' hQ hE h;obtain ⟨s,s',p,p',a,b,e,S,S',hp,hl,q1,q2⟩:=h;exact ⟨s,s',p,p',a,b,e,S,S',hp,hl,λz=>⟨(q1 z).1,λH' u s1 S1=>hQ _ _ ((q1 z).2 H' u s1 S1)⟩,λz=>hE _ _ _ (q2 z)⟩
theorem pq {C CF UN:Addr}{vs:List V}:lK (λH Q E=>lC C CF UN vs H Q E):=by
 intro H Q Q' E E' hQ hE h;obtain ⟨s,s',p,p',a,b,e,S,S',hp,hl,ga,q1,q2⟩:=h;exact ⟨s,s',p,p',a,b,e,S,S',hp,hl,ga,λz=>⟨(q1 z).1,(q1 z).2.1,λH' u s1 S1=>hQ _ _ ((q1 z).2.2 H' u s1 S1)⟩,λz=>hE _ _ _ (q2 z)⟩
theorem wa {C CF NN:Addr}{vs:List V}:lK (λH Q E=>lu C CF NN vs H Q E):=by
 intro H Q Q' E E' hQ hE h;obtain ⟨s,p,a,x,o,e,S,hp,hl,ga,tx,q1,q2,q3⟩:=h;refine ⟨s,p,a,x,o,e,S,hp,hl,ga,tx,λt b y h1 h2 h3=>?_,q2,λz=>hE _ _ _ (q3 z)⟩;obtain ⟨g1,g2,g3,g4,g5⟩:=q1 t b y h1 h2 h3;exact ⟨g1,g2,g3,g4,λH' u s1 S1=>hQ _ _ (g5 H' u s1 S1)⟩
noncomputable def EW (b:Bool):Str:=if b=true then "told" else "number"
theorem wt {f c' c1 c2 C CF NN UN fW s s':Addr}{J9:FuncData}{o1 o2 oc fo:Obj}{p p':Int}{a b:List Tm}{pm ctv:Value}{cs:List (Addr × Obj)}{H7:Hp}{Q:VK}{E:XK}(HK:cs=[(c1,o1),(c2,o2)])
 (N8:fo=kla_obj "<lambda>" lqual (qT nZ) (qR nZ) (BH nZ) [("_law_first",c2),("_law_far",c1)] pm c' ctv)
 (r1:iM (.ref s') o1)(r2:iM (.ref s) o2)(JD:c1≠c2)(Fy:di lqual oc)(c:SumK K mg C)
 (FW:FnOk P w K mg base (aV P w) 9 fW J9 ["self","other"] (ll C CF UN))(bW:L2.aA K J9 ["self","other"] [])(mW:L2.Meth K C "plus" fW)
 (S:SumR C CF H7 s p a)(S':SumR C CF H7 s' p' b)(hp:FP p)(hl:a.length + b.length < 4000)(Ft:p'≠p)(hf:H7 f=some (cN f fo))(Fi:H7 c'=some (cN c' oc))(z:∀ c∈[c1,c2],H7 c=none)
 (i:∀ H',dM cs H'->aB H7 (dG cs H')->Q (.str "unlike") H'):ka P w K mg base 10 NN UN [.ref f] (c5 cs H7) Q E:=by
 subst HK N8;refine ⟨f,_,rfl,gw (φ0:=λH Q E=>ll C CF UN [.ref s,.ref s'] H Q E) (k:=9) (v1:=.ref s') (v2:=.ref s) rfl rfl rfl rfl (by decide +kernel) (by decide +kernel) rfl rfl (by decide +kernel) r1 r2 JD Fy ?_,jH qQ,nC hf Fi z ?_⟩
 ·intro A outer s0 H Q E hr q
  have hs:∃ dx fl D,H s=some (.ins C dx (pG fl D)):=by
   obtain ⟨s1,s2,p,p',a,b,e,S,_⟩:=q
   cases e
   exact S.hd
  obtain ⟨dx,fl,D,hs⟩:=hs;exact ⟨_,aX (E:=E) (pv 1) c.cl mW FW hr bW .nil (iC gE) (@ai _ _ _ _ _ (pv 0) af rfl),_,rfl,s,dx,_,rfl,hs,rfl,_,rfl,q⟩
 ·refine ⟨s,s',p,p',a,b,rfl,S,S',hp,hl,λe=>absurd e Ft,λ_=>⟨rfl,.inr ⟨rfl,λH9 s9=>?_⟩⟩⟩;obtain ⟨i1,i2⟩:=zW z s9;exact i H9 i1 i2
theorem yh {f c' c1 c2 C CF NN UN fW s s':Addr}{J9:FuncData}{o1 o2 oc fo:Obj}{p p':Int}{a:List Tm}{pm ctv:Value}{cs:List (Addr × Obj)}{H7:Hp}{Q:VK}{E:XK}(HK:cs=[(c1,o1),(c2,o2)])
 (N8:fo=kla_obj "<lambda>" lqual (qT nX) (qR nX) (BH nX) [("_law_first",c2),("_law_far",c1)] pm c' ctv)
 (r1:iM (.ref s') o1)(r2:iM (.ref s) o2)(JD:c1≠c2)(Fy:di lqual oc)(c:SumK K mg C)
 (FW:FnOk P w K mg base (aV P w) 9 fW J9 ["self","other"] (lC C CF UN))(bW:L2.aA K J9 ["self","other"] [])(mW:L2.Meth K C "times" fW)
 (S:SumR C CF H7 s p a)(S':SumR C CF H7 s' p' [])(hp:FP p')(Ft:p≠p')(hf:H7 f=some (cN f fo))(Fi:H7 c'=some (cN c' oc))(z:∀ c∈[c1,c2],H7 c=none)
 (i:∀ H',dM cs H'->aB H7 (dG cs H')->Q (.str "unlike") H'):ka P w K mg base 10 NN UN [.ref f] (c5 cs H7) Q E:=by
 subst HK N8;refine ⟨f,_,rfl,gw (φ0:=λH Q E=>lC C CF UN [.ref s',.ref s] H Q E) (k:=9) (v1:=.ref s') (v2:=.ref s) rfl rfl rfl rfl (by decide +kernel) (by decide +kernel) rfl rfl (by decide +kernel) r1 r2 JD Fy ?_,jH pq,nC hf Fi z ?_⟩
 ·intro A outer s0 H Q E hr q
  have hs:∃ dx fl D,H s'=some (.ins C dx (pG fl D)):=by
   obtain ⟨s1,s2,p,p',a,b,e,S,_⟩:=q
   cases e
   exact S.hd
  obtain ⟨dx,fl,D,hs⟩:=hs;exact ⟨_,aX (E:=E) (pv 0) c.cl mW FW hr bW .nil (iC gE) (@ai _ _ _ _ _ (pv 1) af rfl),_,rfl,s',dx,_,rfl,hs,rfl,_,rfl,q⟩
 ·refine ⟨s',s,p',p,[],a,rfl,S',S,hp,by rw [List.length_nil,Nat.zero_mul]; decide,(λt ht=>(nomatch ht)),λe=>absurd e Ft,λ_=>⟨rfl,.inr ⟨rfl,λH9 s9=>?_⟩⟩⟩;obtain ⟨i1,i2⟩:=zW z s9;exact i H9 i1 i2
theorem wN {f c' c1 c2 C CF NN UN fW s:Addr}{J9:FuncData}{o1 o2 oc fo:Obj}{p:Int}{a:List Tm}{x:V}{o:Option (V × V)}{pm ctv:Value}{cs:List (Addr × Obj)}{H7:Hp}{Q:VK}{E:XK}(HK:cs=[(c1,o1),(c2,o2)])
 (N8:fo=kla_obj "<lambda>" lqual (qT pC) (qR pC) (BH pC) [("_law_odd",c2),("_law_first",c1)] pm c' ctv)
 (r1:iM (.ref s) o1)(r2:iM x o2)(JD:c1≠c2)(Fy:di lqual oc)(c:SumK K mg C)
 (FW:FnOk P w K mg base (aV P w) 9 fW J9 ["self","number"] (lu C CF NN))(bW:L2.aA K J9 ["self","number"] [])(mW:L2.Meth K C "scaled" fW)
 (S:SumR C CF H7 s p a)(hp:FP p)(hl:a.length < 4000)(ga:∀ t∈a,Gn p 4000 t.2)(tx:TX H7 x o)
 (hn:isN p o=true->∃ y t b,x = .ref y/\o=some (.int t,.int b)/\H7 y=some (bD t b)/\B 4000 t/\B 4000 b/\Num p t b/\Gth p (fA p (t,b) a))
 (hf:H7 f=some (cN f fo))(Fi:H7 c'=some (cN c' oc))(z:∀ c∈[c1,c2],H7 c=none)
 (i:∀ H',dM cs H'->aB H7 (dG cs H')->Q (.str (EW (isN p o))) H'):ka P w K mg base 10 NN UN [.ref f] (c5 cs H7) Q E:=by
 subst HK N8;refine ⟨f,_,rfl,gw (φ0:=λH Q E=>lu C CF NN [.ref s,x] H Q E) (k:=9) (v1:=.ref s) (v2:=x) rfl rfl rfl rfl (by decide +kernel) (by decide +kernel) rfl rfl (by decide +kernel) r1 r2 JD Fy ?_,jH wa,nC hf Fi z ?_⟩
 ·intro A outer s0 H Q E hr q
  have hs:∃ dx fl D,H s=some (.ins C dx (pG fl D)):=by
   obtain ⟨s1,p,a,x,o,e,S,_⟩:=q
   cases e
   exact S.hd
  obtain ⟨dx,fl,D,hs⟩:=hs;exact ⟨_,aX (E:=E) (pv 0) c.cl mW FW hr bW .nil (iC gE) (@ai _ _ _ _ _ (pv 1) af rfl),_,rfl,s,dx,_,rfl,hs,rfl,_,rfl,q⟩
 ·refine ⟨s,p,a,x,o,rfl,S,hp,hl,ga,tx,λt b y e1 e2 e3=>?_,λe=>?_,λe=>⟨rfl,.inl ⟨rfl,λH9 s9=>?_⟩⟩⟩
  ·obtain ⟨y',t',b',h1,h2,h3,h4,h5,h6,h7⟩:=hn e3;rw [e1] at h1
   injection h1 with h1
   subst h1;rw [e2] at h3
   injection h3 with h3
   injection h3 with h3
   injection h3 with h3 LG
   injection LG with LG _
   injection h3 with h3
   injection LG with LG
   subst h3;subst LG;rw [e3] at i;refine ⟨h4,h5,h6,h7,λH8 u s8 S8=>?_⟩;obtain ⟨i1,i2⟩:=zW z (wd s8);exact i _ i1 i2
  ·obtain ⟨y',t',b',h1,h2,h3,_⟩:=hn e;exact ⟨y',t',b',h1,h3⟩
  ·rw [e] at i;obtain ⟨i1,i2⟩:=zW z s9;exact i H9 i1 i2
noncomputable abbrev AJ:Stmt:=(aZ 40)
noncomputable abbrev t7:Stmt:=(aZ 39)
noncomputable def spLIsN:Sp:=λvs H Q _=>∃ (p:Int)(x:V)(o:Option (V × V)),vs=[.int p,x]/\FP p/\TX H x o/\(∀ t b,o=some (.int t,.int b)->B 9000 t/\B 9000 b)/\∀ H',aB H H'->Q (.bl (isN p o)) H'
theorem xm:FnScope ["_law_thing"] ["_law_thing"] (aq t7):=dX (by decide +kernel)
theorem BK:FnScope ["_law_prime_here","_law_thing"] ["_law_prime_here","_law_thing"] (aq AJ):=dX (by decide +kernel)
theorem uE {f:Addr}{fd:FuncData}(F:Fun K "_law_whole" "_law_whole" t7 f fd)(n:Nones mg):FnOk P w K mg base (aV P w) 1 f fd ["_law_thing"] spWhole:=by
 refine F.okN xm (λvs H Q E h=>?_) (λFb A outer s H vs Q E hr h=>?_)
 ·obtain ⟨x,T,rfl,_⟩:=h;rfl
 ·obtain ⟨x,T,rfl,th,q⟩:=h
  refine ⟨_,ar (az (cE (aF aR (by rfl) n.isi (by rfl) (aO (pv 0) (aO (dh (by rfl) n.int (by rfl) (show aC (.ty "int") (.type "int") from rfl)) af)))
   (dC (xC (aF aR (by rfl) n.isi (by rfl) (aO (pv 0) (aO (dh (by rfl) n.bool (by rfl) (show aC (.ty "bool") (.type "bool") from rfl)) af))))))),?_⟩
  refine ⟨_,rfl,x,.ty "int",_,_,_,rfl,rfl,th.ty,th.isInt,_,rfl,?_⟩;refine cz (λhi=>?_) (λhi=>?_)
  ·refine ⟨_,rfl,x,.ty "bool",_,_,_,rfl,rfl,th.ty,th.isBool hi,_,rfl,?_⟩;simpa using q
  ·have e:dt x=false:=by
    cases th <;> first | rfl | exact absurd rfl hi
   rw [e] at q;exact q
theorem zi {f fw fl:Addr}{fd HZ FK:FuncData}(F:Fun K "_law_is_number" "_law_is_number" AJ f fd)(N9:mg "isinstance"=none)(Fc:mg "tuple"=none)(m_len:mg "len"=none)
 (FW:FnOk P w K mg base (aV P w) 1 fw HZ ["_law_thing"] spWhole)(bW:L2.aA K HZ ["_law_thing"] [])(mW:mg "_law_whole"=some (.ref fw))(kW:keepIn K (.ref fw)=true)
 (FL:FnOk P w K mg base (aV P w) 1 fl FK ["_law_top","_law_bottom"] spLLow)(bL:L2.aA K FK ["_law_top","_law_bottom"] [])(mL:mg "_law_lowest"=some (.ref fl))(kL:keepIn K (.ref fl)=true):
 FnOk P w K mg base (aV P w) 2 f fd ["_law_prime_here","_law_thing"] spLIsN:=by
 refine F.okN BK (λvs H Q E h=>?_) (λFb A outer s H vs Q E hr h=>?_)
 ·obtain ⟨p,x,o,rfl,_⟩:=h;rfl
 ·obtain ⟨p,x,o,rfl,hp,tx,hB,q⟩:=h
  refine ⟨_,ak (bg (PW.pt (gh (bU (b9 (aF aR (by rfl) N9 (by rfl) (@ai _ _ _ _ _ (pv 1) (@ai _ _ _ _ _ (dh (by rfl) Fc (by rfl) (show aC (.ty "tuple") (.type "tuple") from rfl)) af rfl) rfl))))
   (gh (@aQ _ _ _ _ _ _ _ _ gm (aF ck (by rfl) m_len PySem.boot_len (@ai _ _ _ _ _ (pv 1) af rfl)) aj (aI _))
   (gh (bU (b9 (ax FW hr (by rfl) mW kW bW .nil ae (@ai _ _ _ _ _ (@aS _ _ _ _ _ _ _ a7 (pv 1) aj (λ_ _=>rfl)) af rfl))))
   (fL (bU (b9 (ax FW hr (by rfl) mW kW bW .nil ae (@ai _ _ _ _ _ (@aS _ _ _ _ _ _ _ a7 (pv 1) aj (λ_ _=>rfl)) af rfl))))))))) (ar (az cU)) aD)
   (ak (bg (@aQ _ _ _ _ _ _ _ _ pz (pv 0) aj (aI _)) (ar (az (cE (@bZ _ _ _ _ _ _ _ _ d8 (@aS _ _ _ _ _ _ _ a7 (pv 1) aj (λ_ _=>rfl)) aj (aI _)) (dC (kf wB jJ aj (@aS _ _ _ _ _ _ _ a7 (pv 1) aj (λ_ _=>rfl)) (pv 0)))))) aD)
   (ar (az (cE (@bZ _ _ _ _ _ _ _ _ pz (@aS _ _ _ _ _ _ _ a7 (pv 1) aj (λ_ _=>rfl)) aj (aI _)) (dC (@bZ _ _ _ _ _ _ _ _ (qk hr) (ax FL hr (by rfl) mL kL bL .nil ae (@ai _ _ _ _ _ (@aS _ _ _ _ _ _ _ a7 (pv 1) aj (λ_ _=>rfl)) (@ai _ _ _ _ _ (@aS _ _ _ _ _ _ _ a7 (pv 1) aj (λ_ _=>rfl)) af rfl) rfl)) (pv 1) (aI _))))))),?_⟩
  cases tx with
  | @no x T th ne =>
    refine ⟨_,rfl,x,.ty "tuple",_,_,_,rfl,rfl,th.ty,th.isTup,_,rfl,?_⟩;rw [decide_eq_false ne];exact cb (cb (q _ (aB.refl _)))
  | @odd a xs ha hl =>
    refine ⟨_,rfl,.ref a,.ty "tuple",_,_,_,rfl,rfl,.of (.tup ha),rfl,_,rfl,bF ?_⟩;refine ⟨_,rfl,a,_,rfl,.inr (a9.of ha),rfl,_,rfl,?_⟩;refine cz (λ_=>cb (q _ (aB.refl _))) (λh=>absurd (by simp; omega) h)
  | @two a y z Ty Tz ha hy hz =>
    refine ⟨_,rfl,.ref a,.ty "tuple",_,_,_,rfl,rfl,.of (.tup ha),rfl,_,rfl,bF ?_⟩;refine ⟨_,rfl,a,_,rfl,.inr (a9.of ha),rfl,_,rfl,?_⟩;refine cz (λh=>absurd h (by simp)) (λ_=>?_);refine ⟨_,rfl,a,_,0,y,rfl,rfl,a9.of ha,rfl,y,Ty,rfl,hy,_,rfl,?_⟩
    cases e1:dt y with
    | false =>
      have z1:isN p (some (y,z))=false:=by cases y <;> first | rfl | cases e1
      rw [z1] at q;exact cb (cb (q _ (aB.refl _)))
    | true =>
      refine bF ⟨_,rfl,a,_,1,z,rfl,rfl,a9.of ha,rfl,z,Tz,rfl,hz,_,rfl,?_⟩
      cases e2:dt z with
      | false =>
        have z1:isN p (some (y,z))=false:=by cases y <;> cases z <;> first | rfl | cases e2
        rw [z1] at q;exact cb (q _ (aB.refl _))
      | true =>
        have z1:∃ t,y = .int t:=by cases y <;> first | exact ⟨_,rfl⟩ | cases e1
        have z2:∃ b,z = .int b:=by cases z <;> first | exact ⟨_,rfl⟩ | cases e2
        obtain ⟨t,rfl⟩:=z1;obtain ⟨b,rfl⟩:=z2;refine bF ?_;refine ⟨_,rfl,_,_,rfl,rfl,_,rfl,?_⟩;refine cz (λh=>?_) (λh=>?_)
        ·have FO:p≠0:=by
          have:0 < p:=by simpa using h
          omega
         have z1:isN p (some (.int t,.int b))=(decide (b=1)&&(decide (0<=t)&&decide (t < p))):=by simp [isN,FO]
         rw [z1] at q;refine ⟨_,rfl,a,_,1,_,rfl,rfl,a9.of ha,rfl,rfl,_,rfl,?_⟩;refine cz (λh1=>?_) (λh1=>?_)
         ·have GD:decide (b=1)=true:=by simpa using h1
          rw [GD,Bool.true_and] at q;refine ⟨_,rfl,a,_,0,_,rfl,rfl,a9.of ha,rfl,_,_,rfl,rfl,_,rfl,?_⟩;refine cz (λh2=>?_) (λh2=>?_)
          ·refine ⟨_,rfl,_,_,rfl,rfl,?_⟩;have IW:decide (0<=t)=true:=h2;rw [IW,Bool.true_and] at q;exact q _ (aB.refl _)
          ·have IW:decide (0<=t)=false:=by simpa using h2
           rw [IW,Bool.false_and] at q;exact q _ (aB.refl _)
         ·have GD:decide (b=1)=false:=by simpa using h1
          rw [GD,Bool.false_and] at q;exact q _ (aB.refl _)
        ·have FO:p=0:=by
          have h':¬ 0 < p:=by simpa using h
          rcases hp with hp | hp
          ·exact hp
          ·have:∀ q∈primes,0 < q:=by decide
           exact absurd (this p hp) h'
         have z1:isN p (some (.int t,.int b))=(decide (1<=b)&&decide (Int.gcd t b=1)):=by simp [isN,FO]
         rw [z1] at q;refine ⟨_,rfl,a,_,1,_,rfl,rfl,a9.of ha,rfl,_,_,rfl,rfl,_,rfl,?_⟩;refine cz (λh1=>?_) (λh1=>?_)
         ·have Jx:0 < b:=by simpa using h1
          obtain ⟨B1,B2⟩:=hB t b rfl;refine ⟨_,rfl,a,_,0,_,rfl,rfl,a9.of ha,rfl,_,rfl,a,_,1,_,rfl,rfl,a9.of ha,rfl,t,b,rfl,by omega,B2,B1,λH' c sH hc=>?_⟩;refine ⟨_,rfl,.tup [.int (cM t b),.int (b7 t b)],.tup [.int t,.int b],?_,?_,(by simp [jd,eF]),?_⟩
          ·exact ⟨c,_,rfl,a9.of hc,_,_,rfl,rfl,_,_,rfl,rfl,rfl⟩
          ·exact ⟨a,_,rfl,a9.of (sH _ _ ha),_,_,rfl,rfl,_,_,rfl,rfl,rfl⟩
          ·have e3:(dU (.tup [.int (cM t b),.int (b7 t b)]) (.tup [.int t,.int b]) != false)=decide (Int.gcd t b=1):=by
            have d1:dU (.tup [.int (cM t b),.int (b7 t b)]) (.tup [.int t,.int b])=(cM t b == t&&(b7 t b == b&&true)):=rfl;rw [d1]
            by_cases g:Int.gcd t b=1
            ·obtain ⟨g1,g2⟩:=jA Jx g;simp [g1,g2,g]
            ·have:¬ (cM t b=t/\b7 t b=b):=λz=>g (by have:=nQ (t:=t) (b:=b) (by omega); rw [z.1,z.2] at this; exact this)
             by_cases g1:cM t b=t
             ·have g2:b7 t b≠b:=λz=>this ⟨g1,z⟩;simp [g1,g2,g]
             ·simp [g1,g]
           rw [e3];have GD:decide (1<=b)=true:=decide_eq_true (by omega);rw [GD,Bool.true_and] at q;exact q _ sH
         ·have GD:decide (1<=b)=false:=by
           have h':¬ 0 < b:=by simpa using h1
           exact decide_eq_false (by omega)
          rw [GD,Bool.false_and] at q;exact q _ (aB.refl _)
noncomputable def nW (K:Frag)(H:Hp)(a:Addr)(ns:List Int):Prop:=(∃ o,H a=some (.frz o (.lst (ns.map V.int))))\/∃ (o:Obj)(its:Array Value)(n:Nat),K.lookup a=some o/\o.cls = .type "list"/\o.dict=none/\o.data = .seq its n/\its.size<=sizeLine/\L2.aK (ns.map V.int) its.toList
theorem nW.sq {K:Frag}{H:Hp}{a:Addr}{ns:List Int}(h:nW K H a ns):bu K H a (ns.map V.int):=by
 rcases h with ⟨o,h⟩ | h
 ·exact .inl (.inr ⟨o,h⟩)
 ·exact .inr h
theorem nW.same {K:Frag}{H H':Hp}{a:Addr}{ns:List Int}(h:nW K H a ns)(S:aB H H'):nW K H' a ns:=by
 rcases h with ⟨o,h⟩ | h
 ·exact .inl ⟨o,S _ _ h⟩
 ·exact .inr h
theorem nW.kp {K:Frag}{H H':Hp}{a:Addr}{ns:List Int}(h:nW K H a ns)(S:Kp H H'):nW K H' a ns:=by
 rcases h with ⟨o,h⟩ | h
 ·exact .inl ⟨o,S _ _ h λ_ z=>by cases z⟩
 ·exact .inr h
theorem nW.but {K:Frag}{H H':Hp}{a r:Addr}{ns:List Int}(h:nW K H a ns)(R:a8 H r)(S:SameBut r H H'):nW K H' a ns:=by
 rcases h with ⟨o,h⟩ | h
 ·refine .inl ⟨o,S _ _ h λz=>?_⟩;obtain ⟨l,x,e,_⟩:=R;rw [z,e] at h
  cases h
 ·exact .inr h
theorem gW {ls:List Pos}{q:Str}{Pt r:Addr}{H H':Hp}(h:jl ls q Pt H)(R:a8 H r)(S:SameBut r H H'):jl ls q Pt H':=by
 obtain ⟨l,x,e,_⟩:=R;exact h.but e S
theorem zd {H:Hp}{x:V}{o:Option (V × V)}{p:Int}(hp:FP p)(h:TX H x o)(e:isN p o=true):∃ y t b,x = .ref y/\o=some (.int t,.int b)/\H y=some (bD t b)/\Num p t b:=by
 cases h with
 | no _ _=>cases e
 | odd _ _=>cases e
 | @two a y z Ty Tz h1 h2 h3 =>
   cases h2 with
   | int t =>
     cases h3 with
     | int b =>
       refine ⟨a,t,b,rfl,rfl,h1,?_⟩;unfold isN at e;dsimp only at e
       by_cases z:p=0
       ·rw [if_pos z] at e;rw [Bool.and_eq_true] at e;have e1:=of_decide_eq_true e.1;exact ⟨by omega,of_decide_eq_true e.2,λw=>absurd z w⟩
       ·rw [if_neg z] at e;rw [Bool.and_eq_true,Bool.and_eq_true] at e;have e1:b=1:=of_decide_eq_true e.1;subst e1;exact ⟨by decide,by simp,λ_=>⟨rfl,of_decide_eq_true e.2.1,of_decide_eq_true e.2.2⟩⟩
     | _=>cases e
   | _=>cases e
structure AllL (P:Program)(w:World)(K:Frag)(mg:Str->Option Value)(base:Heap)(C CF Hr UN NN fI HA cc Pt:Addr)(Gi FJ:FuncData):Prop where
 B:AllB P w K mg base C CF Hr UN NN fI HA Gi FJ
 room:∃ f fd,FnOk P w K mg base (aV P w) 1 f fd ["_law_script","_law_k"] (xF K)/\L2.aA K fd ["_law_script","_law_k"] []/\mg "_law_room"=some (.ref f)/\keepIn K (.ref f)=true
 prime:∃ f fd,FnOk P w K mg base (aV P w) 2 f fd ["_law_room_here"] spPrimeL/\L2.aA K fd ["_law_room_here"] []/\mg "_law_prime"=some (.ref f)/\keepIn K (.ref f)=true
 terms:∃ f fd,FnOk P w K mg base (aV P w) 3 f fd ["_law_room_here","_law_prime_here","_law_many","_law_most"] spLTerms/\L2.aA K fd ["_law_room_here","_law_prime_here","_law_many","_law_most"] []/\mg "_law_terms"=some (.ref f)/\keepIn K (.ref f)=true
 take:∃ f fd,FnOk P w K mg base (aV P w) 1 f fd ["_law_room_here","_law_many"] spTake/\L2.aA K fd ["_law_room_here","_law_many"] []/\mg "_law_take"=some (.ref f)/\keepIn K (.ref f)=true
 number:∃ f fd,FnOk P w K mg base (aV P w) 2 f fd ["_law_room_here","_law_prime_here"] spNumber/\L2.aA K fd ["_law_room_here","_law_prime_here"] []/\mg "_law_number"=some (.ref f)/\keepIn K (.ref f)=true
 both:∃ f fd,FnOk P w K mg base (aV P w) 10 f fd ["_law_field","_law_prime_here","_law_one","_law_other"] (xq CF)/\L2.aA K fd ["_law_field","_law_prime_here","_law_one","_law_other"] []/\mg "_law_both"=some (.ref f)/\keepIn K (.ref f)=true
 lscaled:∃ f fd,FnOk P w K mg base (aV P w) 10 f fd ["_law_field","_law_prime_here","_law_terms_here","_law_number_here"] (Az CF)/\L2.aA K fd ["_law_field","_law_prime_here","_law_terms_here","_law_number_here"] []/\mg "_law_scaled"=some (.ref f)/\keepIn K (.ref f)=true
 isN:∃ f fd,FnOk P w K mg base (aV P w) 2 f fd ["_law_prime_here","_law_thing"] spLIsN/\L2.aA K fd ["_law_prime_here","_law_thing"] []/\mg "_law_is_number"=some (.ref f)/\keepIn K (.ref f)=true
 kind:∃ f fd,FnOk P w K mg base (aV P w) 11 f fd ["_law_call"] (ka P w K mg base 10 NN UN)/\L2.aA K fd ["_law_call"] []/\mg "_law_kind"=some (.ref f)/\keepIn K (.ref f)=true
 scl:∃ f fd,FnOk P w K mg base (aV P w) 9 f fd ["self","number"] (lu C CF NN)/\L2.aA K fd ["self","number"] []/\L2.Meth K C "scaled" f
 sterms:∃ f fd,FnOk P w K mg base (aV P w) 1 f fd ["self"] (jT C CF)/\L2.aA K fd ["self"] []/\L2.Meth K C "terms" f
 hd:CodeHd base cc Pt
 bm:∃ bm ob,mg "__builtins__"=some (.ref bm)/\bm≠builtinsNs/\base.get? bm=some ob/\ob.cls = .type "module"/\ob.dict=some builtinsNs/\ob.data = .plain
 m_max:mg "max"=none
 m_min:mg "min"=none
 m_len:mg "len"=none
 m_range:mg "range"=none
 m_int:mg "int"=none
noncomputable def Cf (K:Frag)(C CF Pt:Addr):TS:=λD σ H=>∃ (a la s1:Addr)(ns:List Int)(p:Int)(ys:List V)(t1:List Tm)(x:V)(o:Option (V × V))(o1 o2 o4 o5 o8 o9 HC HD HE HF HG:Option V),
 σ=[some (.ref a),o1,o2,some (.int p),o4,o5,some x,some (.ref la),o8,o9,some (.ref s1),HC,HD,HE,HF,HG]/\FP p/\nW K H a ns/\qD Pt H/\SumR C CF H s1 p (tg p t1)/\Lv p 320 6 t1/\H la=some (.lst ys)/\aH H ys t1/\TX H x o/\(∀ t b,o=some (.int t,.int b)->Nm.B 45 t/\Nm.B 45 b) /\
 ∀ σ' H',(∃ o1 o2 o3 o4 o5 o6 o7 o8 o9 Ji HC HD HE HF HG,σ'=[some (.ref a),o1,o2,o3,o4,o5,o6,o7,o8,o9,Ji,HC,HD,HE,HF,HG])->nW K H' a ns->qD Pt H'->D.nx σ' H'
theorem iX.imp' {X:Cx}{st:List Stmt}{t u:TS}(h:iX X st t)(i:∀ D σ H,u D σ H->t D σ H):iX X st u:=λpins s σ H D I q=>h pins s σ H D I (i D σ H q)
section
variable {P:Program}{w:World}{K:PySem.W.Frag}{mg:Str->Option Value}{base:Heap}
variable {fa:Addr}{A:Around}{outer:List Env}{s0:Shared}{H0:Hp}{E0:XK}{C CF Hr UN NN fI HA cc Pt:Addr}{Gi FJ:FuncData}
theorem m9:(XL P w K mg base fa (.ref cc) A outer s0 H0 E0).env.qual++"<lambda>"=lqual:=rfl
set_option maxHeartbeats 1000000 in
theorem xD (Fn:Room 11 (XL P w K mg base fa (.ref cc) A outer s0 H0 E0).A)(W:AllL P w K mg base C CF Hr UN NN fI HA cc Pt Gi FJ):
 iX (XL P w K mg base fa (.ref cc) A outer s0 H0 E0) (xM.drop 11) (Cf K C CF Pt):=by
 obtain ⟨fTi,Us,Gv,Gw,Gx⟩:=W.B.times;obtain ⟨fPl,Ut,IZ,Ja,Jb⟩:=W.B.plus;obtain ⟨fSc,aaP,Ua,Ub,Uc⟩:=W.scl;obtain ⟨fSt,aaQ,T7,T8,T9⟩:=W.sterms;obtain ⟨fMu,aaR,Ui,Uj,Uk,Ul⟩:=W.B.mult;obtain ⟨fIn,aaS,FIn,bIn,mIn,kIn⟩:=W.isN;obtain ⟨fKd,aaW,Uu,Uv,Uw,Ux⟩:=W.kind;have FD:=Fn.mono (show 9<=11 by decide);have Jh:=Fn.mono (show 7<=11 by decide);have JX:=Fn.mono (show 5<=11 by decide);have Gg:=Fn.mono (show 3<=11 by decide);have FQ:=Fn.mono (show 2<=11 by decide);have FF:=Fn.mono (show 1<=11 by decide);have MF:MkFn (XL P w K mg base fa (.ref cc) A outer s0 H0 E0) cc Pt:=⟨rfl,W.hd,W.bm⟩
 refine iX.imp' (ak (@aY _ _ 14 _ _ _ _ dD.nd rfl (Or.inr rfl) (cT W.B.M W.B.FI Jh (by rfl) W.B.c.c.mgC W.B.bI .nil ae (@ai _ _ _ _ _ (cT W.B.MF W.B.FFI Gg (by rfl) W.B.cF.mgC W.B.bFFI .nil ae (@ai _ _ _ _ _ (@aS _ _ _ _ _ _ _ bA (@cW _ _ _ _ (@ai _ _ _ _ _ aj (@ai _ _ _ _ _ aj af rfl) rfl)) (c9 ig (by rfl) W.m_int (by rfl) (@ai _ _ _ _ _ (@bZ _ _ _ _ _ _ _ _ d8 (pv 3) aj (aI _)) af rfl)) (λ_ _=>rfl)) af rfl)) (@ai _ _ _ _ _ (@cW _ _ _ _ af) af rfl) rfl)) rfl (Or.inl rfl))
  (ak (bg (@aQ _ _ _ _ _ _ _ _ gm (kg (ys:=["_law_far","_law_first"]) (js:=[14,10]) Uu Fn (by rfl) Uw Ux Uv (λH s e s' z=>by obtain ⟨a,cls,a0,B,d,H',_,_,_,_,hE⟩:=z; exact hE.elim) rfl (λy hy=>by
   simp at hy
   rcases hy with rfl | rfl <;> rfl) (λy hy=>rfl) (@ai _ _ _ _ _ (ix (osc:=aq e8) MF rfl (by decide +kernel) rfl) af rfl)) cY (aI _)) (ar (az cU)) aD)
  (ak (bg (@aQ _ _ _ _ _ _ _ _ gm (kg (ys:=["_law_far","_law_first"]) (js:=[14,10]) Uu Fn (by rfl) Uw Ux Uv (λH s e s' z=>by obtain ⟨a,cls,a0,B,d,H',_,_,_,_,hE⟩:=z; exact hE.elim) rfl (λy hy=>by
   simp at hy
   rcases hy with rfl | rfl <;> rfl) (λy hy=>rfl) (@ai _ _ _ _ _ (ix (osc:=aq e8) MF rfl (by decide +kernel) rfl) af rfl)) cY (aI _)) (ar (az cU)) aD)
  (ak (@aY _ _ 15 _ _ _ _ dD.nd rfl (Or.inl rfl) (@aS _ _ _ _ _ _ _ bA (@cW _ _ _ _ (@ai _ _ _ _ _ cY (@ai _ _ _ _ _ cY af rfl) rfl)) (c9 ig (by rfl) W.m_int (by rfl) (@ai _ _ _ _ _ (ax FIn FQ (by rfl) mIn kIn bIn .nil ae (@ai _ _ _ _ _ (pv 3) (@ai _ _ _ _ _ (pv 6) af rfl) rfl)) af rfl)) (λ_ _=>rfl)) rfl (Or.inl rfl))
  (ak (bg (@aQ _ _ _ _ _ _ _ _ gm (kg (ys:=["_law_first","_law_odd"]) (js:=[10,6]) Uu Fn (by rfl) Uw Ux Uv (λH s e s' z=>by obtain ⟨a,cls,a0,B,d,H',_,_,_,_,hE⟩:=z; exact hE.elim) rfl (λy hy=>by
   simp at hy
   rcases hy with rfl | rfl <;> rfl) (λy hy=>rfl) (@ai _ _ _ _ _ (ix (osc:=aq e8) MF rfl (by decide +kernel) rfl) af rfl)) (pv 15) (aI _)) (ar (az cU)) aD)
  (ar (bg (@aQ _ _ _ _ _ _ _ _ (wQ Fn) (gR (aX (pv 10) W.B.c.c.cl Gx Gv FD Gw .nil ae (@ai _ _ _ _ _ (pv 10) af rfl)) W.B.c.c.cl T9 T7 FF T8 .nil ae) (ax Ui JX (by rfl) Uk Ul Uj .nil ae (@ai _ _ _ _ _ (pv 3) (@ai _ _ _ _ _ (pv 7) (@ai _ _ _ _ _ (pv 7) af rfl) rfl) rfl)) (aI _)) (ar (az cU)) aD))))))) λD σ H h=>?_
 obtain ⟨a,la,s1,ns,p,ys,t1,x,o,o1,o2,o4,o5,o8,o9,HC,HD,HE,HF,HG,rfl,hp,sc,tb,S1,L1,FY,FR,tx,bx,fin⟩:=h;refine ⟨by decide,λL hL=>?_⟩;have Uy:=av (o:=.lst [.int 11,.int 13]) hL;have e1:upd H L (.lst [.int 11,.int 13]) L=some (.lst [.int 11,.int 13]):=ah;generalize upd H L _=H1 at Uy e1 |-
 obtain ⟨q,eq,hq,Xr⟩:∃ q:Int,qO [V.int 11,V.int 13] (if decide (V.int p=V.int 11)=true then 1 else 0)=some (.int q)/\FP q/\q≠p:=by
  by_cases e:p=11
  ·refine ⟨13,?_,.inr (by decide +kernel),by omega⟩;rw [decide_eq_true (by rw [e]),if_pos rfl];rfl
  ·refine ⟨11,?_,.inr (by decide +kernel),λz=>e z.symm⟩;rw [decide_eq_false (λz=>e (by injection z)),if_neg (by decide)];rfl
 refine ⟨_,rfl,rfl,.inr ⟨_,rfl,L,_,_,_,rfl,rfl,bu.of e1,eq,?_⟩⟩;intro f2 df2 N3 Iw Um;refine gs N3 Iw Um hq λH2 s2 e2=>?_;refine ⟨by decide,λL2 MD=>?_⟩;have s3:=av (o:=.lst []) MD;have e3:upd H2 L2 (.lst []) L2=some (.lst []):=ah;generalize upd H2 L2 _=H3 at s3 e3 |-;intro x4 dx4 Oa IA ne4;refine dO Oa IA ne4 (s3 _ _ e2) hq e3 .nil (rO q) (λt ht=>(nomatch ht)) λH4 s4 S4=>?_;have Gy:=Uy.trans (s2.trans (s3.trans s4));have SF:SumR C CF H4 x4 q []:=S4;have S1:=S1.same Gy;have FY:=Gy _ _ FY;have FR:=aH.keep FR (ay.of Gy);have tx:=tx.same Gy;have tb:=tb.same Gy;have sc:=sc.same Gy;clear S4 Gy Uy s2 s3 s4 e1 e2 e3 hL MD N3 Iw Oa IA;have T1:=L1.tg hp (by decide)
 have Ob:s0.heap.objs.size + 1 + 1 + 1≠s0.heap.objs.size + 1 + 1 + 1 + 1:=by omega
 have Uz:s0.heap.objs.size + 1 + 1 + 1 + 1≠s0.heap.objs.size + 1 + 1 + 1 + 1 + 1:=by omega
 simp only [bO,zG,uu,AQ,zD,sj,oh,nK,dZ];refine ql (pos:=lY nZ) List.mem_cons_self qW m9 tb λH7 f c' oc ctv hf Fi Fy S7 Xs=>?_;obtain ⟨ps1,Xu,_⟩:=id tb;have k7:Kp H4 H7:=Kp.bt Xu S7;refine ⟨[.ref x4,.ref s1],rfl,λos ro free=>?_⟩;obtain ⟨q1,q2,eo,r1,r2⟩:=iF ro
 refine wt (pm:=(mg "__name__").getD .none) (ctv:=ctv) (o1:=q1) (o2:=q2) (c1:=s0.heap.objs.size + 1 + 1 + 1) (c2:=s0.heap.objs.size + 1 + 1 + 1 + 1) (c':=c') (by rw [eo]; rfl) rfl r1 r2 Ob Fy W.B.c.c IZ Ja Jb (S1.kp k7) (SF.kp k7) hp (Nat.lt_of_le_of_lt (Nat.add_le_add T1.len (Nat.le_refl _)) (by decide)) Xr hf Fi free
  (λH8 HX S8=>⟨HX,rfl,_,rfl,bF ?_⟩)
 generalize dG ((List.map (fu (XL P w K mg base fa (.ref cc) A outer s0 H0 E0)) ["_law_far","_law_first"]).zip os) H8=H9 at S8 |-;clear HX ro free eo r1 r2 hf Fi Fy;have k9:Kp H4 H9:=k7.trans (Kp.of S8);have UA:=Xs.same S8;have S1:=S1.kp k9;have SF:=SF.kp k9;have FY:=k9.lst FY;have FR:=aH.keep FR k9.tup;have tx:=tx.kp k9;have sc:=sc.kp k9;clear k7 k9 S7 S8 Xs tb Xu;simp only [tNext,zG,uu,zD,sj,oh,nK,dZ];refine ql (pos:=lY nX) (List.mem_cons_of_mem _ List.mem_cons_self) qW m9 UA λXp f c' oc ctv hf Fi Fy Xv Oc=>?_;obtain ⟨ps2,Xw,_⟩:=id UA;have RS:Kp H9 Xp:=Kp.bt Xw Xv;refine ⟨[.ref x4,.ref s1],rfl,λos ro free=>?_⟩;obtain ⟨q1,q2,eo,r1,r2⟩:=iF ro
 refine yh (pm:=(mg "__name__").getD .none) (ctv:=ctv) (o1:=q1) (o2:=q2) (c1:=s0.heap.objs.size + 1 + 1 + 1) (c2:=s0.heap.objs.size + 1 + 1 + 1 + 1) (c':=c') (by rw [eo]; rfl) rfl r1 r2 Ob Fy W.B.c.c Gv Gw Gx (S1.kp RS) (SF.kp RS) hq (Ne.symm Xr) hf Fi free
  (λXq HX RT=>⟨HX,rfl,_,rfl,bF ?_⟩)
 generalize dG ((List.map (fu (XL P w K mg base fa (.ref cc) A outer s0 H0 E0)) ["_law_far","_law_first"]).zip os) Xq=UB at RT |-;clear HX ro free eo r1 r2 hf Fi Fy;have MS:Kp H9 UB:=RS.trans (Kp.of RT);have Od:=Oc.same RT;have S1:=S1.kp MS;have FY:=MS.lst FY;have FR:=aH.keep FR MS.tup;have tx:=tx.kp MS;have sc:=sc.kp MS;clear RS MS Xv RT Oc UA Xw SF;refine ⟨by decide,λL3 Xx=>?_⟩;have MT:=av (o:=.lst [.str "number",.str "told"]) Xx;have UC:upd UB L3 (.lst [.str "number",.str "told"]) L3=some (.lst [.str "number",.str "told"]):=ah;generalize upd UB L3 _=H20 at MT UC |-;refine ⟨_,rfl,_,rfl,p,x,o,rfl,hp,tx.same MT,(λt b e=>⟨(bx t b e).1.mono (by decide),(bx t b e).2.mono (by decide)⟩),λXy Oe=>?_⟩;refine .inr ⟨_,rfl,L3,_,_,.str (EW (isN p o)),rfl,rfl,bu.of (Oe _ _ UC),by cases isN p o <;> rfl,?_⟩;have F3:=MT.trans Oe;have LZ:=Od.same F3;have S1:=S1.same F3;have FY:=F3 _ _ FY;have FR:=aH.keep FR (ay.of F3);have tx:=tx.same F3;have sc:=sc.same F3;clear MT Oe F3 Od UC Xx;simp only [bO,tNext,zG,uu,zD,sj,oh,nK,dZ];refine ql (pos:=lY pC) (List.mem_cons_of_mem _ (List.mem_cons_of_mem _ List.mem_cons_self)) qW m9 LZ λH27 f c' oc ctv hf Fi Fy Xz Of=>?_;obtain ⟨ps3,XA,_⟩:=id LZ;have RU:Kp Xy H27:=Kp.bt XA Xz;refine ⟨[.ref s1,x],rfl,λos ro free=>?_⟩;obtain ⟨q1,q2,eo,r1,r2⟩:=iF ro;have L4:=tx.kp RU
 refine wN (pm:=(mg "__name__").getD .none) (ctv:=ctv) (o1:=q1) (o2:=q2) (c1:=s0.heap.objs.size + 1 + 1 + 1 + 1) (c2:=s0.heap.objs.size + 1 + 1 + 1 + 1 + 1) (c':=c') (by rw [eo]; rfl) rfl r1 r2 Uz Fy W.B.c.c Ua Ub Uc (S1.kp RU) hp (Nat.lt_of_le_of_lt T1.len (by decide)) (λt ht=>(T1.gn hp (by decide) (by decide) t ht).1) L4
  (λe=>by
   obtain ⟨y,t,b,h1,h2,h3,h4⟩:=zd hp L4 e;obtain ⟨g1,g2⟩:=bx t b h2
   exact ⟨y,t,b,h1,h2,h3,g1.mono (by decide),g2.mono (by decide),h4,(T1.scl (c:=(t,b)) ⟨h4,g1,g2⟩ hp).gth hp (by decide) (by decide)⟩) hf Fi free
  (λH28 HX RV=>⟨HX,_,rfl,rfl,_,rfl,?_⟩)
 rw [decide_eq_true rfl];refine bF ?_;generalize dG ((List.map (fu (XL P w K mg base fa (.ref cc) A outer s0 H0 E0)) ["_law_first","_law_odd"]).zip os) H28=H29 at RV |-;clear HX ro free eo r1 r2 hf Fi Fy L4;have Og:Kp Xy H29:=RU.trans (Kp.of RV);have UD:=Of.same RV;have S1:=S1.kp Og;have FY:=Og.lst FY;have FR:=aH.keep FR Og.tup;have sc:=sc.kp Og;clear RU Og Xz RV Of LZ XA tx;obtain ⟨d1,_,_,h1⟩:=S1.hd;refine ⟨_,rfl,s1,d1,_,rfl,h1,rfl,_,rfl,?_⟩;dsimp only [tNil];refine cy S1 S1 hp T1 T1 (by decide) λXB u UE XC=>?_;rw [pL hp L1.num L1.num] at XC;obtain ⟨du,flu,dxu,Du,zu,u1,u2,u3,u4⟩:=XC.ex;refine ⟨u,du,_,rfl,u1,rfl,u,du,flu,Du,zu,rfl,u1,u3,λl hl=>?_⟩;have Oh:=av (o:=.lst zu) hl;have XD:upd XB l (.lst zu) l=some (.lst zu):=ah;generalize upd XB l _=H31 at Oh XD |-;have GH:=UE.trans Oh;refine ⟨_,rfl,_,rfl,_,rfl,p,la,la,ys,ys,t1,t1,rfl,hp,GH _ _ FY,aH.keep FR (ay.of GH),GH _ _ FY,aH.keep FR (ay.of GH),Nat.lt_of_le_of_lt (Nat.mul_le_mul L1.len L1.len) (by decide),L1.gn hp (by decide) (by decide),L1.gn hp (by decide) (by decide),(L1.mul L1 hp).gth hp (by decide) (by decide),λH32 D' zs Oi hD hz=>?_⟩;refine ⟨_,_,eK (Oi _ _ XD) (aH.keep u4 (ay.of (Oh.trans Oi))),eK hD hz,nR _,_,rfl,?_⟩;rw [dS];refine bF ?_;have Ka:=GH.trans Oi;exact fin _ _ ⟨_,_,_,_,_,_,_,_,_,_,_,_,_,_,_,rfl⟩ (sc.same Ka) (UD.same Ka)
end
noncomputable def AZ (K:Frag)(C CF Pt:Addr):TS:=λD σ H=>∃ (a fl Fg nu la lb lc:Addr)(ns:List Int)(p t b:Int)(ya yb yc:List V)(t1 t2 t3:List Tm)(x:V)(o:Option (V × V))(o1 o2 Ji HC HD HE HF HG:Option V),
 σ=[some (.ref a),o1,o2,some (.int p),some (.ref fl),some (.ref nu),some x,some (.ref la),some (.ref lb),some (.ref lc),Ji,HC,HD,HE,HF,HG]/\FP p/\nW K H a ns/\qD Pt H/\H fl=some (.ins CF Fg (eI p))/\H nu=some (bD t b)/\Gn p 45 (t,b) /\
 Lv p 320 6 t1/\H la=some (.lst ya)/\aH H ya t1/\Lv p 320 6 t2/\H lb=some (.lst yb)/\aH H yb t2/\Lv p 320 6 t3/\H lc=some (.lst yc)/\aH H yc t3/\TX H x o/\(∀ t b,o=some (.int t,.int b)->B 45 t/\B 45 b) /\
 ∀ σ' H',(∃ o1 o2 o3 o4 o5 o6 o7 o8 o9 Ji HC HD HE HF HG,σ'=[some (.ref a),o1,o2,o3,o4,o5,o6,o7,o8,o9,Ji,HC,HD,HE,HF,HG])->nW K H' a ns->qD Pt H'->D.nx σ' H'
section
variable {P:Program}{w:World}{K:PySem.W.Frag}{mg:Str->Option Value}{base:Heap}
variable {fa:Addr}{A:Around}{outer:List Env}{s0:Shared}{H0:Hp}{E0:XK}{C CF Hr UN NN fI HA cc Pt:Addr}{Gi FJ:FuncData}
set_option maxHeartbeats 1000000 in
theorem xU (Fn:Room 11 (XL P w K mg base fa (.ref cc) A outer s0 H0 E0).A)(W:AllL P w K mg base C CF Hr UN NN fI HA cc Pt Gi FJ):
 iX (XL P w K mg base fa (.ref cc) A outer s0 H0 E0) (xM.drop 6) (AZ K C CF Pt):=by
 obtain ⟨fTi,Us,Gv,Gw,Gx⟩:=W.B.times;obtain ⟨fPl,Ut,IZ,Ja,Jb⟩:=W.B.plus;obtain ⟨fe,LI,FE,bE,nE,iE⟩:=W.B.eq;obtain ⟨fBo,aa2,FBo,bBo,mBo,kBo⟩:=W.both;obtain ⟨fLs,aa7,FLs,bLs,mLs,kLs⟩:=W.lscaled;have Oj:=Fn.mono (show 10<=11 by decide);have FD:=Fn.mono (show 9<=11 by decide);have Jh:=Fn.mono (show 7<=11 by decide);have Gg:=Fn.mono (show 3<=11 by decide)
 refine iX.imp' (ak (bg (PW.pt (gh (bU (b9 (ax FBo Oj (by rfl) mBo kBo bBo .nil ae (@ai _ _ _ _ _ (pv 4) (@ai _ _ _ _ _ (pv 3) (@ai _ _ _ _ _ (pv 7) (@ai _ _ _ _ _ (pv 8) af rfl) rfl) rfl) rfl)))) (fL (bU (b9 (ax FLs Oj (by rfl) mLs kLs bLs .nil ae (@ai _ _ _ _ _ (pv 4) (@ai _ _ _ _ _ (pv 3) (@ai _ _ _ _ _ (pv 7) (@ai _ _ _ _ _ (pv 5) af rfl) rfl) rfl) rfl))))))) (ar (az cU)) aD)
  (ak (iP (@bV _ _ _ _ _ (@ai _ _ _ _ _ (cT W.B.M W.B.FI Jh (by rfl) W.B.c.c.mgC W.B.bI .nil ae (@ai _ _ _ _ _ (pv 4) (@ai _ _ _ _ _ (pv 7) af rfl) rfl)) (@ai _ _ _ _ _ (cT W.B.M W.B.FI Jh (by rfl) W.B.c.c.mgC W.B.bI .nil ae (@ai _ _ _ _ _ (pv 4) (@ai _ _ _ _ _ (pv 8) af rfl) rfl)) (@ai _ _ _ _ _ (cT W.B.M W.B.FI Jh (by rfl) W.B.c.c.mgC W.B.bI .nil ae (@ai _ _ _ _ _ (pv 4) (@ai _ _ _ _ _ (pv 9) af rfl) rfl)) af rfl) rfl) rfl)) (cZ rfl (aE (aG (i:=10) dD.nd rfl (Or.inr rfl)) (aE (aG (i:=11) dD.nd rfl (Or.inl rfl)) (aE (aG (i:=12) dD.nd rfl (Or.inl rfl)) cj)))))
  (ak (bg (@aQ _ _ _ _ _ _ _ _ (hZ nE iE W.B.ne W.B.c.ob FE Gg bE ae) (aX (aX (pv 10) W.B.c.c.cl Gx Gv FD Gw .nil ae (@ai _ _ _ _ _ (pv 11) af rfl)) W.B.c.c.cl Gx Gv FD Gw .nil ae (@ai _ _ _ _ _ (pv 12) af rfl)) (aX (pv 10) W.B.c.c.cl Gx Gv FD Gw .nil ae (@ai _ _ _ _ _ (aX (pv 11) W.B.c.c.cl Gx Gv FD Gw .nil ae (@ai _ _ _ _ _ (pv 12) af rfl)) af rfl)) (aI _)) (ar (az cU)) aD)
  (ak (@aY _ _ 13 _ _ _ _ dD.nd rfl (Or.inl rfl) (aX (aX (pv 10) W.B.c.c.cl Gx Gv FD Gw .nil ae (@ai _ _ _ _ _ (pv 11) af rfl)) W.B.c.c.cl Jb IZ FD Ja .nil ae (@ai _ _ _ _ _ (aX (pv 10) W.B.c.c.cl Gx Gv FD Gw .nil ae (@ai _ _ _ _ _ (pv 12) af rfl)) af rfl)) rfl (Or.inl rfl))
  (ak (bg (@aQ _ _ _ _ _ _ _ _ (hZ nE iE W.B.ne W.B.c.ob FE Gg bE ae) (aX (pv 10) W.B.c.c.cl Gx Gv FD Gw .nil ae (@ai _ _ _ _ _ (aX (pv 11) W.B.c.c.cl Jb IZ FD Ja .nil ae (@ai _ _ _ _ _ (pv 12) af rfl)) af rfl)) (pv 13) (aI _)) (ar (az cU)) aD)
  (xD Fn W)))))) λD σ H h=>?_
 obtain ⟨a,fl,Fg,nu,la,lb,lc,ns,p,t,b,ya,yb,yc,t1,t2,t3,x,o,o1,o2,Ji,HC,HD,HE,HF,HG,rfl,hp,sc,tb,hf,Fx,gn,L1,FY,FR,L2,Jf,Hl,L3,hlc,htc,tx,bx,fin⟩:=h;have T1:=L1.tg hp (by decide);have T2:=L2.tg hp (by decide);have T3:=L3.tg hp (by decide);refine ⟨_,rfl,_,rfl,_,rfl,_,rfl,fl,Fg,la,lb,p,ya,yb,t1,t2,rfl,hf,hp,FY,FR,L1,Jf,Hl,L2,λH1 s1=>⟨_,rfl,bF ?_⟩⟩;have gn':Gn p 4000 (t,b):=⟨gn.1,gn.2.1.mono (by decide),gn.2.2.mono (by decide)⟩;refine ⟨_,rfl,_,rfl,_,rfl,_,rfl,fl,Fg,la,nu,p,t,b,ya,t1,rfl,s1 _ _ hf,hp,s1 _ _ FY,aH.keep FR (ay.of s1),L1.gth hp (by decide) (by decide),L1.prd,s1 _ _ Fx,gn',(λt ht=>(T1.gn hp (by decide) (by decide) t ht).1),Nat.lt_of_le_of_lt T1.len (by decide),(L1.scl gn hp).gth hp (by decide) (by decide),(T1.scl gn hp).gth hp (by decide) (by decide),λH2 s2=>⟨_,rfl,bF ?_⟩⟩;have GZ:=s1.trans s2;refine ⟨_,rfl,_,rfl,λx3 dx3 Jd Iy ne3=>?_⟩;refine dO Jd Iy ne3 (GZ _ _ hf) hp (GZ _ _ FY) (aH.keep FR (ay.of GZ)) (L1.gth hp (by decide) (by decide)) L1.prd λH3 s3 S1=>?_;have Gd:=GZ.trans s3;refine ⟨_,rfl,_,rfl,λx4 dx4 Oa IA ne4=>?_⟩;refine dO Oa IA ne4 (Gd _ _ hf) hp (Gd _ _ Jf) (aH.keep Hl (ay.of Gd)) (L2.gth hp (by decide) (by decide)) L2.prd λH4 s4 S2=>?_;have Gy:=Gd.trans s4;refine ⟨_,rfl,_,rfl,λx5 dx5 XE Ol ne5=>?_⟩;refine dO XE Ol ne5 (Gy _ _ hf) hp (Gy _ _ hlc) (aH.keep htc (ay.of Gy)) (L3.gth hp (by decide) (by decide)) L3.prd λH5 s5 S3=>?_;refine ⟨EN,λtu Hy=>?_⟩;have s6:=av (o:=.tup [.ref x3,.ref x4,.ref x5]) Hy;have e6:upd H5 tu (.tup [.ref x3,.ref x4,.ref x5]) tu=some (.tup [.ref x3,.ref x4,.ref x5]):=ah;generalize upd H5 tu _=H6 at s6 e6 |-;have UG:=Gy.trans (s5.trans s6);have S1:=S1.same (s4.trans (s5.trans s6));have S2:=S2.same (s5.trans s6);have S3:=S3.same s6;refine ⟨tu,_,rfl,a9.of e6,rfl,_,_,rfl,_,_,rfl,_,_,rfl,rfl,?_⟩;clear Jd Iy Oa IA XE Ol Hy s1 s2 GZ s3 Gd s4 Gy s5 s6;obtain ⟨d1,_,_,h1⟩:=S1.hd;obtain ⟨d2,_,_,h2⟩:=S2.hd;refine ⟨_,rfl,x3,d1,_,rfl,h1,rfl,_,rfl,?_⟩
 try dsimp only [tNil]
 refine cy S1 S2 hp T1 T2 (by decide) λH7 u7 s7 S7=>?_;have XF:=(T1.mul T2 hp).tg hp (by decide);obtain ⟨d7,_,_,h7⟩:=S7.hd;refine ⟨u7,d7,_,rfl,h7,rfl,_,rfl,?_⟩
 try dsimp only [tNil]
 refine cy S7 (S3.same s7) hp XF T3 (by decide) λH8 u8 s8 S8=>?_;have MU:=s7.trans s8;refine ⟨_,rfl,x3,d1,_,rfl,MU _ _ h1,rfl,_,rfl,x4,d2,_,rfl,MU _ _ h2,rfl,_,rfl,?_⟩
 try dsimp only [tNil]
 refine cy (S2.same MU) (S3.same MU) hp T2 T3 (by decide) λH9 u9 s9 S9=>?_;have XG:=(T2.mul T3 hp).tg hp (by decide);have UH:=MU.trans s9
 try dsimp only [tNil]
 refine cy (S1.same UH) S9 hp T1 XG (by decide) λH10 u10 HM HH=>?_;rw [<-oZ hp T1.num T2.num T3.num] at HH;refine tZ W.B.c (S8.same (s9.trans HM)) HH ⟨_,rfl,bF ?_⟩;have He:=UH.trans HM;have S1:=S1.same He;have S2:=S2.same He;have S3:=S3.same He;have h1:=He _ _ h1;have h2:=He _ _ h2;have UG:=UG.trans He;clear S7 S8 S9 HH s7 s8 s9 HM MU UH He h7 XG;refine ⟨_,rfl,x3,d1,_,rfl,h1,rfl,_,rfl,?_⟩
 try dsimp only [tNil]
 refine cy S1 S2 hp T1 T2 (by decide) λH11 u11 HP Hs=>?_;obtain ⟨d11,_,_,h11⟩:=Hs.hd;refine ⟨u11,d11,_,rfl,h11,rfl,_,rfl,x3,d1,_,rfl,HP _ _ h1,rfl,_,rfl,?_⟩
 try dsimp only [tNil]
 refine cy (S1.same HP) (S3.same HP) hp T1 T3 (by decide) λH12 u12 J6 GR=>?_;have T13:=(T1.mul T3 hp).tg hp (by decide)
 try dsimp only [tNil]
 refine gX (Hs.same J6) GR hp XF T13 (by decide) λH13 u13 MR RP=>?_;have Fs:=HP.trans (J6.trans MR);refine ⟨_,rfl,x3,d1,_,rfl,Fs _ _ h1,rfl,_,rfl,x4,d2,_,rfl,Fs _ _ h2,rfl,_,rfl,?_⟩
 try dsimp only [tNil]
 refine gX (S2.same Fs) (S3.same Fs) hp T2 T3 (by decide) λH14 u14 JB N6=>?_;have TP:=(T2.app T3).tg hp (by decide)
 try dsimp only [tNil]
 refine cy (S1.same (Fs.trans JB)) N6 hp T1 TP (by decide) λH15 u15 LX XH=>?_;rw [qx hp T1.num T2.num T3.num] at XH;refine ⟨_,rfl,tZ W.B.c XH (RP.same (JB.trans LX)) ⟨_,rfl,bF ?_⟩⟩;have Kb:=Fs.trans (JB.trans LX);have IB:=UG.trans Kb;exact ⟨a,la,x3,ns,p,ya,t1,x,o,_,_,_,_,_,_,_,_,_,_,_,rfl,hp,sc.same IB,tb.same IB,S1.same Kb,L1,IB _ _ FY,aH.keep FR (ay.of IB),tx.same IB,bx,fin⟩
end
noncomputable def tT (K:Frag)(Pt:Addr):Sp:=λvs H Q _=>∃ (a:Addr)(ns:List Int),vs=[.ref a]/\nW K H a ns/\ns.length<=63/\qD Pt H/\∀ H',Q (.bl true) H'
theorem a8.same {H H':Hp}{r:Addr}(h:a8 H r)(S:aB H H'):a8 H' r:=by
 obtain ⟨l,x,e,d⟩:=h;exact ⟨l,x,S _ _ e,d⟩
theorem a8.ne {H:Hp}{r l:Addr}(h:a8 H r)(e:H l=none):l≠r:=λz=>by
 obtain ⟨_,_,e',_⟩:=h;rw [z,e'] at e
 cases e
inductive Ox (r:Addr)(H:Hp):V->Option (V × V)->Prop where
 | non:Ox r H .non none
 | int (t:Int):Ox r H (.int t) none
 | str (x:Str):Ox r H (.str x) none
 | lst {q:Addr}:H q=some (.lst [.int 1,.int 1])->q≠r->Ox r H (.ref q) none
 | two {q:Addr}{u v:Int}:H q=some (.tup [.int u,.int v])->Ox r H (.ref q) (some (.int u,.int v))
 | bl {q:Addr}:H q=some (.tup [.bl true,.int 1])->Ox r H (.ref q) (some (.bl true,.int 1))
theorem Ox.tx {r:Addr}{H:Hp}{x:V}{o:Option (V × V)}(h:Ox r H x o):TX H x o:=by
 cases h with
 | non=>exact .no .non (by decide)
 | int t=>exact .no (.int t) (by decide)
 | str x=>exact .no (.str x) (by decide)
 | lst e n=>exact .no (.lst e) (by decide)
 | two e=>exact .two e (.int _) (.int _)
 | bl e=>exact .two e (.bl _) (.int _)
theorem Ox.but {r:Addr}{H H':Hp}{x:V}{o:Option (V × V)}(h:Ox r H x o)(R:a8 H r)(S:SameBut r H H'):Ox r H' x o:=by
 have k:=R.keepT S
 cases h with
 | non=>exact .non
 | int t=>exact .int t
 | str x=>exact .str x
 | lst e n=>exact .lst (S _ _ e n) n
 | two e=>exact .two (k _ _ e)
 | bl e=>exact .bl (k _ _ e)
theorem Bu {H:Hp}{r D:Addr}{zs:List V}{ts:List Tm}(R:a8 H r)(hD:H D=some (.lst zs))(h:aH H zs ts):D≠r:=λz=>by
 obtain ⟨l,x,e,_⟩:=R;rw [z,e] at hD;have hD:=HO.lst.inj (Option.some.inj hD);subst hD
 cases h with
 | cons h _ =>
   obtain ⟨a,pr,nu,z,_⟩:=h
   cases z
theorem BZ {H:Hp}{r q C dx:Addr}{fs:List (Str × V)}(R:a8 H r)(h:H q=some (.ins C dx fs)):q≠r:=λz=>by
 obtain ⟨_,_,e,_⟩:=R;rw [z,e] at h
 cases h
noncomputable def Aa (p:Int)(r:Addr)(H:Hp)(u:V):Prop:=∃ D ys ts,u = .ref D/\D≠r/\H D=some (.lst ys)/\aH H ys ts/\Lv p 320 6 ts
theorem Aa.but {p:Int}{r:Addr}{H H':Hp}{u:V}(h:Aa p r H u)(R:a8 H r)(S:SameBut r H H'):Aa p r H' u:=by
 obtain ⟨D,ys,ts,e,n,hD,ht,L⟩:=h;exact ⟨D,ys,ts,e,n,S _ _ hD n,aH.keep ht (R.keepT S),L⟩
section
variable {P:Program}{w:World}{K:PySem.W.Frag}{mg:Str->Option Value}{base:Heap}
variable {fa:Addr}{A:Around}{outer:List Env}{s0:Shared}{H0:Hp}{E0:XK}{C CF Hr UN NN fI HA cc Pt:Addr}{Gi FJ:FuncData}
set_option maxHeartbeats 1000000 in
theorem vZ {Q:VK}{vs:List V}(Fn:Room 11 (XL P w K mg base fa (.ref cc) A outer s0 H0 E0).A)(W:AllL P w K mg base C CF Hr UN NN fI HA cc Pt Gi FJ)(h:tT K Pt vs H0 Q E0):
 ∃ t,iX (XL P w K mg base fa (.ref cc) A outer s0 H0 E0) (bz e8) t/\t { nx:=λ_ H'=>Q .non H',rt:=Q } (fF NW vs) H0:=by
 obtain ⟨fRm,abi,FRm,bRm,mRm,kRm⟩:=W.room;obtain ⟨fPr,abn,FPr,bPr,mPr,kPr⟩:=W.prime;obtain ⟨fLt,abt,FLt,bLt,mLt,kLt⟩:=W.terms;obtain ⟨fTk,aby,FTk,bTk,mTk,kTk⟩:=W.take;obtain ⟨fNu,abD,T4,T5,T6,kNu⟩:=W.number;have Gg:=Fn.mono (show 3<=11 by decide);have FQ:=Fn.mono (show 2<=11 by decide);have FF:=Fn.mono (show 1<=11 by decide);obtain ⟨a,ns,rfl,XI,hlen,tb,fin⟩:=h
 refine ⟨_,(ak (gB PassesOwn.never rfl (fQ (by rfl) W.m_range (@ai _ _ _ _ _ (aF (u6 rfl) (by rfl) W.m_max (by rfl) (@ai _ _ _ _ _ aj (@ai _ _ _ _ _ (aF (uX rfl) (by rfl) W.m_min (by rfl) (@ai _ _ _ _ _ (aF ck (by rfl) W.m_len PySem.boot_len (@ai _ _ _ _ _ (pv 0) af rfl)) (@ai _ _ _ _ _ aj af rfl) rfl)) af rfl) rfl)) af rfl)) (aG (i:=1) dD.nd rfl (Or.inl rfl))
  (ak (@aY _ _ 2 _ _ _ _ dD.nd rfl (Or.inr rfl) (ax FRm FF (by rfl) mRm kRm bRm .nil ae (@ai _ _ _ _ _ (pv 0) (@ai _ _ _ _ _ (pv 1) af rfl) rfl)) rfl (Or.inl rfl))
  (ak (@aY _ _ 3 _ _ _ _ dD.nd rfl (Or.inr rfl) (ax FPr FQ (by rfl) mPr kPr bPr .nil ae (@ai _ _ _ _ _ (pv 2) af rfl)) rfl (Or.inl rfl))
  (ak (@aY _ _ 4 _ _ _ _ dD.nd rfl (Or.inl rfl) (cT W.B.MF W.B.FFI Gg (by rfl) W.B.cF.mgC W.B.bFFI .nil ae (@ai _ _ _ _ _ (pv 3) af rfl)) rfl (Or.inl rfl))
  (ak (@aY _ _ 5 _ _ _ _ dD.nd rfl (Or.inl rfl) (ax T4 FQ (by rfl) T6 kNu T5 .nil ae (@ai _ _ _ _ _ (pv 2) (@ai _ _ _ _ _ (pv 3) af rfl) rfl)) rfl (Or.inl rfl))
  (ak (@aY _ _ 6 _ _ _ _ dD.nd rfl (Or.inr rfl) (@aS _ _ _ _ _ _ _ bA (@cW _ _ _ _ (@ai _ _ _ _ _ qX (@ai _ _ _ _ _ (@aS _ _ _ _ _ _ _ a7 (pv 5) aj (λ_ _=>rfl)) (@ai _ _ _ _ _ (@cW _ _ _ _ (@ai _ _ _ _ _ aj (@ai _ _ _ _ _ aj af rfl) rfl)) (@ai _ _ _ _ _ (@bV _ _ _ _ _ (@ai _ _ _ _ _ aj (@ai _ _ _ _ _ aj af rfl) rfl)) (@ai _ _ _ _ _ (@bV _ _ _ _ _ (@ai _ _ _ _ _ cU (@ai _ _ _ _ _ aj af rfl) rfl)) (@ai _ _ _ _ _ (@bV _ _ _ _ _ (@ai _ _ _ _ _ aj (@ai _ _ _ _ _ aj af rfl) rfl)) (@ai _ _ _ _ _ (@bV _ _ _ _ _ (@ai _ _ _ _ _ aj (@ai _ _ _ _ _ aj af rfl) rfl)) (@ai _ _ _ _ _ cY af rfl) rfl) rfl) rfl) rfl) rfl) rfl) rfl)) (ax FTk FF (by rfl) mTk kTk bTk .nil ae (@ai _ _ _ _ _ (pv 2) (@ai _ _ _ _ _ aj af rfl) rfl)) (λ_ _=>rfl)) rfl (Or.inl rfl))
  (ak (iP (eX (N:=["_law_k","_law_room_here","_law_prime_here"]) (nl:=1) (js:=[2,3]) (osc:=aq e8) ⟨rfl,rfl,by decide +kernel,by decide +kernel,by decide +kernel,rfl,(.cons ⟨rfl,by decide +kernel⟩ (.cons ⟨rfl,by decide +kernel⟩ .nil)),by decide +kernel⟩ rfl
   (fQ (by rfl) W.m_range (@ai _ _ _ _ _ aj af rfl))
   (λCq fq sq Hq=>aG (i:=0) (by show (["_law_k","_law_room_here","_law_prime_here"]:List Str).Nodup; decide +kernel) rfl (Or.inl rfl) (Or.inr rfl))
   (λCq fq sq Hq=>d6)
   (λCq fq sq Hq=>(ax FLt Gg (by rfl) mLt kLt bLt .nil ae (@ai _ _ _ _ _ (pv 1) (@ai _ _ _ _ _ (pv 2) (@ai _ _ _ _ _ aj (@ai _ _ _ _ _ aj af rfl) rfl) rfl) rfl)))) (zI rfl (aE (aG (i:=7) dD.nd rfl (Or.inl rfl)) (aE (aG (i:=8) dD.nd rfl (Or.inl rfl)) (aE (aG (i:=9) dD.nd rfl (Or.inl rfl)) cj)))))
  (xU Fn W))))))))
  (ar (az cU))),?_⟩
 refine ⟨_,rfl,a,_,rfl,.inl XI.sq,_,_,rfl,_,_,rfl,_,rfl,?_,?_,?_⟩
 ·rw [List.length_map]
  split <;> split <;> omega
 ·rw [List.length_map]
  split <;> split <;> omega
 refine ue (lo:=0) (λi σ H'=>(∃ o1 o2 o3 o4 o5 o6 o7 o8 o9 Ji HC HD HE HF HG,σ=[some (.ref a),o1,o2,o3,o4,o5,o6,o7,o8,o9,Ji,HC,HD,HE,HF,HG])/\nW K H' a ns/\qD Pt H') ⟨⟨_,_,_,_,_,_,_,_,_,_,_,_,_,_,_,rfl⟩,XI,tb⟩ ?_ ?_
 ·rintro i σ G0 hi ⟨⟨o1,o2,o3,o4,o5,o6,o7,o8,o9,Ji,HC,HD,HE,HF,HG,rfl⟩,UI,XJ⟩
  have abF:i < 60:=by
   rw [List.length_map] at hi
   split at hi <;> split at hi <;> omega
  refine ⟨_,rfl,_,rfl,a,ns,0 + (i:Int),rfl,UI.sq,hlen,by omega,by omega,λr l1 r1 Rx FF FQ=>?_⟩;have S1:=av (o:=.lst [.int l1,.int r1]) Rx;have UJ:=UI.same S1;have UK:=XJ.same S1;have R1:a8 (upd G0 r (.lst [.int l1,.int r1])) r:=⟨l1,r1,ah,FF,FQ⟩;generalize (upd G0 r (.lst [.int l1,.int r1]))=G1 at UJ UK R1 |-;clear UI XJ Rx S1;refine ⟨_,rfl,r,rfl,R1,λp G2 hp R2 S2=>?_⟩;have XM:=UJ.but R1 S2;have XN:=gW UK R1 S2;clear UJ UK S2 R1;refine ⟨_,rfl,λfl Fg XO Om Ft=>?_⟩;refine gs XO Om Ft hp λG3 S3 RW=>?_;have XQ:=XM.same S3;have XR:=XN.same S3;have R3:=R2.same S3;clear XM XN S3 R2;refine ⟨_,rfl,_,rfl,r,p,rfl,hp,R3,λnu t b G4 nm bt bb Fx R4 S4=>?_⟩;have XS:=XQ.but R3 S4;have XT:=gW XR R3 S4
  have UL:G4 fl=some (.ins CF Fg (eI p)):=S4 _ _ RW λz=>by
   obtain ⟨_,_,e,_⟩:=R3;rw [z,e] at RW
   cases RW
  clear XQ XR S4 R3 RW XO Om;refine ⟨_,rfl,nu,_,0,_,rfl,rfl,a9.of Fx,a0 _ _,by decide,λq1 Oo=>?_⟩;have S5:=av (o:=.lst [.int 1,.int 1]) Oo;have e1:upd G4 q1 (.lst [.int 1,.int 1]) q1=some (.lst [.int 1,.int 1]):=ah;have n1:=R4.ne Oo;generalize upd G4 q1 _=G5 at S5 e1 |-;refine ⟨by decide,λq2 XU=>?_⟩;have S6:=av (o:=.tup [.int 1,.int 0]) XU;have e2:upd G5 q2 (.tup [.int 1,.int 0]) q2=some (.tup [.int 1,.int 0]):=ah;generalize upd G5 q2 _=G6 at S6 e2 |-;refine ⟨by decide,λq3 XW=>?_⟩;have S7:=av (o:=.tup [.bl true,.int 1]) XW;have e3:upd G6 q3 (.tup [.bl true,.int 1]) q3=some (.tup [.bl true,.int 1]):=ah;generalize upd G6 q3 _=G7 at S7 e3 |-;refine ⟨by decide,λq4 XX=>?_⟩;have S8:=av (o:=.tup [.int 2,.int 2]) XX;have e4:upd G7 q4 (.tup [.int 2,.int 2]) q4=some (.tup [.int 2,.int 2]):=ah;generalize upd G7 q4 _=G8 at S8 e4 |-;refine ⟨by decide,λq5 XY=>?_⟩;have S9:=av (o:=.tup [.int 98,.int 1]) XY;have e5:upd G8 q5 (.tup [.int 98,.int 1]) q5=some (.tup [.int 98,.int 1]):=ah;generalize upd G8 q5 _=G9 at S9 e5 |-;have UM:=S5.trans (S6.trans (S7.trans (S8.trans S9)));have R9:=R4.same UM;refine ⟨E2,λL hL=>?_⟩;have HH:=av (o:=.lst [.non,.int t,.ref q1,.ref q2,.ref q3,.ref q4,.ref q5,.str "1"]) hL;have eL:upd G9 L (.lst [.non,.int t,.ref q1,.ref q2,.ref q3,.ref q4,.ref q5,.str "1"]) L=some (.lst [.non,.int t,.ref q1,.ref q2,.ref q3,.ref q4,.ref q5,.str "1"]):=ah;have nL:=R9.ne hL;generalize upd G9 L _=RX at HH eL |-;have Oq:=R9.same HH;refine ⟨_,rfl,?_⟩;obtain ⟨lq1,xq1,Oo,yq1,zq1⟩:=id Oq;refine ⟨_,lq1,xq1,8,rfl,Oo,yq1,zq1,by decide,by decide,λz RY RZ z0 z1 yp1 zp1=>?_⟩;have XZ:a8 (upd RX r (.lst [.int RY,.int RZ])) r:=⟨RY,RZ,ah,yp1,zp1⟩;have Hs:SameBut r RX (upd RX r (.lst [.int RY,.int RZ])):=SameBut.upd;generalize upd RX r (.lst [.int RY,.int RZ])=G11 at XZ Hs |-;have MV:=Oq.keepT Hs;have IC:=UM.trans HH;have eL:=Hs _ _ eL nL;have e1:=Hs _ _ ((S6.trans (S7.trans (S8.trans (S9.trans HH)))) _ _ e1) n1;have e2:=MV _ _ ((S7.trans (S8.trans (S9.trans HH))) _ _ e2);have e3:=MV _ _ ((S8.trans (S9.trans HH)) _ _ e3);have e4:=MV _ _ ((S9.trans HH) _ _ e4);have e5:=MV _ _ (HH _ _ e5);have Fx:=MV _ _ (IC _ _ Fx)
  have hf:=Hs _ _ (IC _ _ UL) λz=>by
   obtain ⟨_,_,e,_⟩:=R4;rw [z,e] at UL
   cases UL
  have UO:=(XS.same IC).but Oq Hs;have UP:=gW (XT.same IC) Oq Hs;clear XS XT S5 S6 S7 S8 S9 UM HH IC Hs MV R4 R9 Oq Oo XU XW XX XY hL
  obtain ⟨x,o,ex,tx,bx⟩:∃ (x:V)(o:Option (V × V)),qO [.non,.int t,.ref q1,.ref q2,.ref q3,.ref q4,.ref q5,.str "1"] z=some x/\Ox r G11 x o/\∀ t b,o=some (.int t,.int b)->B 45 t/\B 45 b:=by
   have hz:z=0\/z=1\/z=2\/z=3\/z=4\/z=5\/z=6\/z=7:=by omega
   have bb:∀ {u v:Int},B 45 u->B 45 v->∀ t b,some (V.int u,V.int v)=some (V.int t,V.int b)->B 45 t/\B 45 b:=λhu hv t b e=>by
    injection e with e
    injection e with e1 e2
    injection e1 with e1
    injection e2 with e2
    exact ⟨e1 ▸ hu,e2 ▸ hv⟩
   rcases hz with h | h | h | h | h | h | h | h <;> subst h
   ·exact ⟨_,none,rfl,.non,λt b e=>by cases e⟩
   ·exact ⟨_,none,rfl,.int t,λt b e=>by cases e⟩
   ·exact ⟨_,none,rfl,.lst e1 n1,λt b e=>by cases e⟩
   ·exact ⟨_,_,rfl,.two e2,bb (by unfold B; decide) (by unfold B; decide)⟩
   ·exact ⟨_,_,rfl,.bl e3,λt b e=>by cases e⟩
   ·exact ⟨_,_,rfl,.two e4,bb (by unfold B; decide) (by unfold B; decide)⟩
   ·exact ⟨_,_,rfl,.two e5,bb (by unfold B; decide) (by unfold B; decide)⟩
   ·exact ⟨_,none,rfl,.str "1",λt b e=>by cases e⟩
  clear e1 e2 e3 e4 e5 n1;refine ⟨L,_,z,x,rfl,rfl,bu.of eL,ex,?_⟩;clear eL nL ex;refine ⟨3,rfl,by decide,by decide,?_⟩
  refine vH (lo:=0) (n:=(3:Int).toNat) (rest:=[some (.ref r),some (.int p)]) (λj us H'=>a8 H' r/\nW K H' a ns/\qD Pt H'/\H' fl=some (.ins CF Fg (eI p))/\H' nu=some (bD t b)/\Ox r H' x o/\us.length=j/\∀ u∈us,Aa p r H' u)
   ⟨XZ,UO,UP,hf,Fx,tx,rfl,λu hu=>(nomatch hu)⟩ (λj us H' hj h=>?_) (λj us H' N hj h k=>?_) (λus H' h=>?_)
  ·rw [h.2.2.2.2.2.2.1];exact Nat.lt_of_le_of_lt hj (by decide)
  ·obtain ⟨RH,UQ,UR,R0,L6,US,Ot,FX⟩:=h;refine xj ⟨_,rfl,_,rfl,r,p,5,6,rfl,RH,hp,by decide,by decide,by decide,by decide,λD ys ts H2 hD JV hl hg R2 S2=>?_⟩;refine k _ _ ⟨R2,UQ.but RH S2,gW UR RH S2,S2 _ _ R0 (BZ RH R0),RH.keepT S2 _ _ L6,US.but RH S2,by rw [List.length_append,Ot]; rfl,λu hu=>?_⟩
   rcases List.mem_append.mp hu with hu | hu
   ·exact (FX u hu).but RH S2
   ·have:u = .ref D:=by simpa using hu
    subst this;exact ⟨D,ys,ts,rfl,Bu R2 hD JV,hD,JV,By (by omega) hg⟩
  ·obtain ⟨RH,UQ,UR,R0,L6,US,Ot,FX⟩:=h;intro l hl;have GR:=av (o:=.lst us) hl;have X0:upd H' l (.lst us) l=some (.lst us):=ah;generalize upd H' l _=G12 at GR X0 |-
   obtain ⟨u1,u2,u3,rfl⟩:∃ u1 u2 u3,us=[u1,u2,u3]:=by
    have Ot:us.length=3:=Ot
    match us,Ot with
    | [u1,u2,u3],_=>exact ⟨u1,u2,u3,rfl⟩
   obtain ⟨D1,y1,t1,rfl,_,hD1,Je,L1⟩:=FX u1 (by simp);obtain ⟨D2,y2,t2,rfl,_,MH,ht2,L2⟩:=FX u2 (by simp);obtain ⟨D3,y3,t3,rfl,_,Tw,ht3,L3⟩:=FX u3 (by simp);refine ⟨l,_,rfl,bu.of X0,rfl,_,_,rfl,_,_,rfl,_,_,rfl,rfl,?_⟩;have kt:=ay.of GR;exact ⟨a,fl,Fg,nu,D1,D2,D3,ns,p,t,b,y1,y2,y3,t1,t2,t3,x,o,_,_,_,_,_,_,_,_,rfl,hp,UQ.same GR,UR.same GR,GR _ _ R0,GR _ _ L6,⟨nm,bt,bb⟩,L1,GR _ _ hD1,aH.keep Je kt,L2,GR _ _ MH,aH.keep ht2 kt,L3,GR _ _ Tw,aH.keep ht3 kt,US.tx.same GR,bx,λσ' HN h1 h2 h3=>⟨h1,h2,h3⟩⟩
 ·rintro σ H' ⟨⟨o1,o2,o3,o4,o5,o6,o7,o8,o9,Ji,HC,HD,HE,HF,HG,rfl⟩,_,_⟩;exact fin _
theorem Bw {f:Addr}{oc kV doc pm ct:Value}{od an:Option Addr}{Fo:Array (Option Value)}(lk:K.lookup f=some ⟨oc,od,.func (fnOf "law" "law" (cg e8) (bz e8) (aq e8) .none kV doc pm an (.ref cc) ct),Fo⟩)(F7:codeIn K (.ref cc) "law"=true)
 (W:AllL P w K mg base C CF Hr UN NN fI HA cc Pt Gi FJ):FnOk P w K mg base (aV P w) 12 f (fnOf "law" "law" (cg e8) (bz e8) (aq e8) .none kV doc pm an (.ref cc) ct) ["_law_script"] (tT K Pt):=by
 refine tH lk F7 dD (λvs H Q E h=>?_) λA outer s H vs Q E hr Hh=>?_
 ·obtain ⟨a,ns,rfl,_⟩:=h;rfl
 ·obtain ⟨t,h,q⟩:=vZ (fa:=f) (A:=A) (outer:=outer) (s0:=s) (H0:=H) (E0:=E) hr W Hh;exact ⟨t,h.nox,q⟩
end
end K06
namespace Hd
open PySem PySem.W PyProof.Rows
noncomputable def ou (K:Frag)(x qual:Str)(st:Stmt)(f:Addr):Prop:=∃ (oc:Value)(od:Option Addr)(kV doc pm:Value)(an:Option Addr)(Fb ct:Value)(Fo:Array (Option Value)),
 K.lookup f=some ⟨oc,od,.func (fnOf x qual (L2.cg st) (L2.bz st) (L2.aq st) .none kV doc pm an Fb ct),Fo⟩/\codeIn K Fb qual=true/\keepIn K (.ref f)=true
theorem aM {K:Frag}{v:Option (Option Value)}{x qual:Str}{st:Stmt}(h:aW K v=dE x qual st)(b:dj K v qual=true):v=some (some (.ref (c8 v)))/\ou K x qual st (c8 v):=by
 unfold aW at h;obtain ⟨fd,e,s⟩:=Option.map_eq_some_iff.mp (show (jI K v).map Aq=some _ from h);unfold dj at b;rw [e] at b;rw [Bool.and_eq_true] at b;unfold jI at e
 split at e
 ·rename_i f
  split at e
  ·rename_i oc od X1 Fo hl
   cases e
   refine ⟨rfl,oc,od,fd.kwdefaults,fd.doc,fd.pyModule,fd.annotations,fd.code,fd.closureTuple,Fo,?_,b.2,b.1⟩;show K.lookup f=_;rw [hl];obtain ⟨n,q,p,bd,sc,g,c,dv,kv,dc,pm,an,cd,ct,bl⟩:=fd;unfold Aq at s;simp only [Prod.mk.injEq] at s;obtain ⟨rfl,rfl,rfl,rfl,rfl,rfl,rfl,rfl,rfl⟩:=s;rfl
  ·cases e
 ·cases e
theorem ou.fn {K:Frag}{x qual:Str}{st:Stmt}{f:Addr}(d:ou K x qual st f):∃ fd,L2.Fun K x qual st f fd:=by
 obtain ⟨oc,od,kV,doc,pm,an,Fb,ct,Fo,l,c,k⟩:=d;exact ⟨_,L2.Cj l c k⟩
theorem ou.keep {K:Frag}{x qual:Str}{st:Stmt}{f:Addr}(d:ou K x qual st f):keepIn K (.ref f)=true:=by
 obtain ⟨oc,od,kV,doc,pm,an,Fb,ct,Fo,l,c,k⟩:=d;exact k
end Hd
namespace L2
open PySem PySem.Spec PyProof.Rows PySem.W
end L2
namespace Hd
open PySem PySem.W PyProof.Rows
noncomputable def xp (K:Frag)(x qual:Str)(st:Stmt)(f T:Addr):Prop:=∃ (oc:Value)(od:Option Addr)(kV doc pm:Value)(an:Option Addr)(Fb ct:Value)(Fo:Array (Option Value)),
 K.lookup f=some ⟨oc,od,.func (fnOf x qual (L2.cg st) (L2.bz st) (L2.aq st) (.ref T) kV doc pm an Fb ct),Fo⟩/\codeIn K Fb qual=true/\keepIn K (.ref f)=true
theorem mJ {K:Frag}{v:Option (Option Value)}{x qual:Str}{st:Stmt}(h:iQ K v=dE x qual st)(b:dj K v qual=true)(d:vB K v=true):v=some (some (.ref (c8 v)))/\xp K x qual st (c8 v) (pj K v):=by
 unfold iQ at h;obtain ⟨fd,e,s⟩:=Option.map_eq_some_iff.mp (show (jI K v).map (λfd=>Aq { fd with defaults:=.none })=some _ from h)
 have hd:fd.defaults = .ref (pj K v):=by
  unfold vB DG at d;unfold pj DG;rw [e] at d |-;dsimp only at d |-
  cases q:fd.defaults with
  | ref a=>rfl
  | _=>rw [q] at d; cases d
 unfold dj at b;rw [e] at b;rw [Bool.and_eq_true] at b;generalize pj K v=T at hd;unfold jI at e
 split at e
 ·rename_i f
  split at e
  ·rename_i oc od X1 Fo hl
   cases e
   refine ⟨rfl,oc,od,fd.kwdefaults,fd.doc,fd.pyModule,fd.annotations,fd.code,fd.closureTuple,Fo,?_,b.2,b.1⟩;show K.lookup f=_;rw [hl];obtain ⟨n,q,p,bd,sc,g,c,dv,kv,dc,pm,an,cd,ct,bl⟩:=fd;unfold Aq at s;simp only [Prod.mk.injEq] at s;have hd:dv = .ref T:=hd;subst hd;obtain ⟨rfl,rfl,rfl,rfl,rfl,rfl,rfl,_,rfl⟩:=s;rfl
  ·cases e
 ·cases e
theorem xp.fn {K:Frag}{x qual:Str}{st:Stmt}{f T:Addr}(d:xp K x qual st f T):∃ fd,L2.FunD K x qual st f fd T:=by
 obtain ⟨oc,od,kV,doc,pm,an,Fb,ct,Fo,l,c,k⟩:=d;exact ⟨_,L2.zU l c k⟩
theorem xp.keep {K:Frag}{x qual:Str}{st:Stmt}{f T:Addr}(d:xp K x qual st f T):keepIn K (.ref f)=true:=by
 obtain ⟨oc,od,kV,doc,pm,an,Fb,ct,Fo,l,c,k⟩:=d;exact k
noncomputable def EH (K:Frag)(x qual:Str)(st:Stmt)(f c:Addr):Prop:=∃ (oc:Value)(od:Option Addr)(kV doc pm:Value)(an:Option Addr)(ct:Value)(Fo:Array (Option Value)),
 K.lookup f=some ⟨oc,od,.func (fnOf x qual (L2.cg st) (L2.bz st) (L2.aq st) .none kV doc pm an (.ref c) ct),Fo⟩/\codeIn K (.ref c) qual=true/\keepIn K (.ref f)=true
theorem tV {K:Frag}{v:Option (Option Value)}{x qual:Str}{st:Stmt}{cc:Addr}(h:aW K v=dE x qual st)(b:dj K v qual=true)(d:vK K v cc=true):v=some (some (.ref (c8 v)))/\EH K x qual st (c8 v) cc:=by
 unfold aW at h;obtain ⟨fd,e,s⟩:=Option.map_eq_some_iff.mp (show (jI K v).map Aq=some _ from h)
 have hd:fd.code = .ref cc:=by
  unfold vK at d;rw [e] at d;dsimp only at d
  cases q:fd.code with
  | ref a =>
    rw [q] at d
    have:a=cc:=by simpa using d
    rw [this]
  | _=>rw [q] at d; cases d
 unfold dj at b;rw [e] at b;rw [Bool.and_eq_true] at b;unfold jI at e
 split at e
 ·rename_i f
  split at e
  ·rename_i oc od X1 Fo hl
   cases e
   have b2:codeIn K fd.code qual=true:=b.2;rw [hd] at b2;refine ⟨rfl,oc,od,fd.kwdefaults,fd.doc,fd.pyModule,fd.annotations,fd.closureTuple,Fo,?_,b2,b.1⟩;show K.lookup f=_;rw [hl];obtain ⟨n,q,p,bd,sc,g,c,dv,kv,dc,pm,an,cd,ct,bl⟩:=fd;unfold Aq at s;simp only [Prod.mk.injEq] at s;have hd:cd = .ref cc:=hd;subst hd;obtain ⟨rfl,rfl,rfl,rfl,rfl,rfl,rfl,rfl,rfl⟩:=s;rfl
  ·cases e
 ·cases e
theorem ow:∀ {vs:List Value}{ns:List Int},sO vs ns=true->L2.aK (ns.map L2.V.int) vs
 | [],[],_=>.nil
 | v :: vs,n :: ns,h=>by
   unfold sO at h;rw [Bool.and_eq_true] at h;obtain ⟨t,rfl⟩:=jC h.1;exact .cons ⟨t,rfl⟩ (ow h.2)
 | [],_ :: _,h=>by cases h
 | _ :: _,[],h=>by cases h
theorem sW {K:Frag}{a:Addr}{ns:List Int}(h:yp K a ns=true)(H:L2.Hp):L2.a9 K H a (ns.map L2.V.int):=by
 unfold yp at h
 split at h
 ·rename_i o ho
  rw [Bool.and_eq_true] at h;obtain ⟨h1,h2⟩:=h
  split at h1
  ·rename_i T hT
   split at h2
   ·rename_i its n hd
    rw [Bool.and_eq_true] at h2
    have:T="tuple":=by simpa using h1
    subst this;exact .inr ⟨o,its,n,ho,hT,hd,of_decide_eq_true h2.2,ow h2.1⟩
   ·cases h2
  ·cases h1
 ·cases h
open L2 in
theorem vv {l:OpenLaw}{n k:Nat}{q:Program}{loose:List Str}{XP:(Str->Option Value)->Heap->Prop}{YP:World->Heap->Prop}{d:DefRec}{CX:World->CXT}{sp:Frag->Sp}{x:Str}{φ:Frag->Prop}{tabs:Frag->List (Addr × Addr)}
 (hn:l.most=some n)(Mw:n<=sizeLine)(Nb:d.params.defaults=[])(hr:Room k callerA)
 (hY:∀ (w:World)(h:Heap),YP w h->∃ K:Frag,φ K/\K.In h)
 (hT:∀ (w:World)(s₀:Shared)(mg mb:Str->Option Value)(h:Heap)(K:Frag),φ K->Ground q loose [] XP w s₀ mg mb h->K.In h->TabsAt (tabs K) h/\∀ r∈tabs K,K.lookup r.2=none)
 (F:∀ (w:World)(K:Frag)(mg:Str->Option Value)(fa:Addr)(h:Heap),φ K->K.In h->h.Ns mainGlobals mg->mg d.name=some (.ref fa) →
  ∃ fd:FuncData,(∀ (s:Shared)(u:Value),BindsTo s fd ⟨[u],[]⟩ [(x,u)])/\∀ base:Heap,K.In base->base.Ns mainGlobals mg->BaseT (tabs K) mg base->FnOk l.prog w K mg base (CX w) k fa fd [x] (sp K))
 (Hh:∀ (K:Frag)(H:Hp)(a:Addr)(ns:List Int),ns.length<=n->vX (tabs K) H->bu K H a (ns.map V.int)->sp K [.ref a] H (λv _=>v = .bl true) λ_ _ _=>False)
 (SV:∀ (w:World)(H:Hp)(s:Shared)(e:Value)(s':Shared),CX w [] H s (λ_ _ _=>False) e s'->False):
 WalkO q loose XP YP l.row.toRowW d [] (λf vs=>PySem.call f vs):=by
 refine Wq.pI hn Nb λw s₀ s₁ mg mb fa o pm cd doc a vs ns G Y ho hd F7 Sr Ln hints hlen hg=>?_;obtain ⟨K,hφ,KX⟩:=hY w _ Y;obtain ⟨fd,hb,hF⟩:=F w K mg fa _ hφ KX G.T.g Sr;obtain ⟨t1,t2⟩:=hT w s₀ mg mb _ K hφ G KX;exact uv KX G.T.g G.T.b G.T.builtins G.T.nolimit hg Ln hints (Nat.le_trans hlen Mw) hr t1 t2 G.T.bmain hF hb (λH hO hS=>Hh K H a ns hlen hO hS) λH e s'=>SV w H s₁ e s'
end Hd
namespace K06
open PySem L2 PySem.W Nm
open Hd (gv ga fv c8 fk cK dz bo g9 cB ie b8 dj aW iQ dE vB pj uT jf wj mQ isI jC uY jb yp vK aM mJ tV sW)
section
variable {K:Frag}{f T:Addr}{fd:FuncData}{oT:Obj}{t:Tok}{n:Nat}
theorem CJ (F:FunD K "__init__" "Field.__init__" wX f fd T)(lT:K.lookup T=some oT)(dT:oT.data = .seq #[.int 0 t] n):L2.aA K fd ["self","prime"] []:=by
 obtain ⟨oc,od,kV,doc,pm,an,Fb,ct,Fo,rfl,lk,F7⟩:=F.ex;intro s us KX hl
 cases us with
 | nil=>simp at hl
 | cons a0 r1 =>
   cases r1 with
   | nil=>simp at hl
   | cons a1 r2 =>
     cases r2 with
     | nil=>exact binds_K KX rfl lT dT rfl rfl
     | cons a r=>simp at hl
theorem BQ (F:FunD K "__init__" "Sum.__init__" nO f fd T)(lT:K.lookup T=some oT)(dT:oT.data = .seq #[.none] n):L2.aA K fd ["self","field","terms"] []:=by
 obtain ⟨oc,od,kV,doc,pm,an,Fb,ct,Fo,rfl,lk,F7⟩:=F.ex;intro s us KX hl
 cases us with
 | nil=>simp at hl
 | cons a0 r1 =>
   cases r1 with
   | nil=>simp at hl
   | cons a1 r2 =>
     cases r2 with
     | nil=>simp at hl
     | cons a2 r3 =>
       cases r3 with
       | nil=>exact binds_K KX rfl lT dT rfl rfl
       | cons a r=>simp at hl
theorem zJ (F:FunD K "__init__" "Sum.__init__" nO f fd T)(lT:K.lookup T=some oT)(dT:oT.data = .seq #[.none] n):L2.aA K fd ["self","field","terms"] [.none]:=by
 obtain ⟨oc,od,kV,doc,pm,an,Fb,ct,Fo,rfl,lk,F7⟩:=F.ex;intro s us KX hl
 cases us with
 | nil=>simp at hl
 | cons a0 r1 =>
   cases r1 with
   | nil=>simp at hl
   | cons a1 r2 =>
     cases r2 with
     | nil=>exact binds_K KX rfl lT dT rfl rfl
     | cons a r=>simp at hl
end
noncomputable def vL (_:World)(h:Heap):Prop:=∃ K:Frag,rh K=dueK/\K.In h
theorem yL (w:World)(s:Shared)(e:rh (Hd.vV qm s.heap)=dueK):vL w s.heap:=⟨_,e,Hd.nN _ _⟩
theorem qr (w:World)(h h':Heap)(y:vL w h)(k:∀ (b:Addr)(o:Obj),h.get? b=some o->h'.get? b=some o):vL w h':=let ⟨K,e,i⟩:=y; ⟨K,e,λa o q=>k a o (i a o q)⟩
set_option maxHeartbeats 0 in
theorem p6 {l:OpenLaw}{w:World}{K:Frag}{mg:Str->Option Value}{h:Heap}{fa:Addr}(o:rh K=dueK)(X:K.In h)(G:h.Ns mainGlobals mg)(hfa:mg "law"=some (.ref fa)):
 ∃ fd:FuncData,(∀ (s:Shared)(v:Value),BindsTo s fd ⟨[v],[]⟩ [("_law_script",v)])/\∀ base:Heap,K.In base->base.Ns mainGlobals mg->BaseT [gL K] mg base->FnOk l.prog w K mg base (aV l.prog w) 12 fa fd ["_law_script"] (tT K (gL K).2):=by
 obtain ⟨o1,o2⟩:=Prod.mk.inj (show (ke K,_)=(true,_) from o);simp only [List.cons.injEq,and_true] at o2;obtain ⟨s0,s1,s2,s3,s4,s5,s6,s7,s8,s9,HM,HP,J6,MR,JB,LX,Uq,RQ,Ur,s19,MT,Oe,s22,s23,RN,s25,s26,s27,s28,s29,UE,Oh,Oi,s33,s34,NU,s36,J5,s38,s39,s40,s41,s42,s43,s44⟩:=o2;unfold ke at o1;simp only [Bool.and_eq_true] at o1;obtain ⟨g0,g1,g2,g3,g4,g5,g6,g7,g8⟩:=o1;unfold Er at g0;simp only [Bool.and_eq_true] at g0;obtain ⟨h0,h1,h2,h3,h4,h5,h6,h7,h8,h9,h10,h11,h12,h13,h14,h15⟩:=g0;unfold Ec at g1;simp only [Bool.and_eq_true] at g1;obtain ⟨h16,h17,h18,h19,h20,h21,h22,h23,h24,h25,h26,h27,h28,h29,h30,h31⟩:=g1;unfold Em at g2;simp only [Bool.and_eq_true] at g2;obtain ⟨h32,h33,h34,h35,h36,h37,h38,h39,h40,h41,h42,h43,h44,h45,h46,h47⟩:=g2;unfold Eo at g3;simp only [Bool.and_eq_true] at g3;obtain ⟨h48,h49,h50,h51,h52,h53,h54,h55,h56,h57,h58,h59,h60,h61,h62,h63⟩:=g3;unfold En at g4;simp only [Bool.and_eq_true] at g4;obtain ⟨h64,h65,h66,h67,h68,h69,h70,h71,h72,h73,h74,h75,h76,h77,h78,h79⟩:=g4;unfold Ed at g5;simp only [Bool.and_eq_true] at g5;obtain ⟨h80,h81,h82,h83,h84,h85,h86,h87,h88,h89,h90,h91,h92,h93,h94,h95⟩:=g5;unfold DV at g6;simp only [Bool.and_eq_true] at g6;obtain ⟨h96,h97,h98,h99,h100,h101,h102,h103,h104,h105,h106,h107,h108,h109,h110,h111⟩:=g6;unfold EA at g7;simp only [Bool.and_eq_true] at g7;obtain ⟨h112,h113,h114,h115,h116,h117,h118,h119,h120,h121,h122,h123,h124,h125,h126,h127⟩:=g7;unfold DP at g8;simp only [Bool.and_eq_true] at g8;obtain ⟨h128,h129,h130,h131,h132,h133,h134,h135,h136,h137,h138,h139,h140,h141,h142⟩:=g8;have m:=λ{n:Str}{v:Value}(e:nsIn K mainGlobals n=some (some v))=>mg_of X G e;have m0:=λ{n:Str}(e:nsIn K mainGlobals n=some none)=>mg_none_of X G e;have E8:=m0 (bo h0);have m_int:=m0 (bo h1);have L7:=m0 (bo h2);have Gj:=m0 (bo h3);have Kc:=m0 (bo h4);have m_len:=m0 (bo h5);have Fc:=m0 (bo h6);have Hn:=m0 (bo h7);have Ie:=m0 (bo h8);have FH:=m0 (bo h9);have Fv:=m0 (bo h10);have Ff:=m0 (bo h11);have m_max:=m0 (bo h12);have m_min:=m0 (bo h13);have Gb:=m0 (bo h14);have m_range:=m0 (bo h15);have Ou:=m (cK h16);have JE:=m (cK h17);have Gk:=m (cK h18);have F4:=m (cK h19);have JF:=m (cK h20);have F5:=m (cK h21);have HI:=m (cK h22);have ID:=m (cK h23);obtain ⟨Kd,GI⟩:=jb h24;have Fw:=m GI;obtain ⟨Jj,F8⟩:=jb h25;have F9:=m F8;obtain ⟨UT,Ov⟩:=aM s0 h26;have IE:=m UT;have L8:=Ov.keep;obtain ⟨X2,Ow⟩:=Ov.fn
 have L9:=Ow.binds (ps:=["thing"]) λ_ _ _ _ _ _ us hl=>match us,hl with | [_],_=>rfl
 obtain ⟨UU,Oy⟩:=aM s1 h27;have Oz:=m UU;have UW:=Oy.keep;obtain ⟨X3,OA⟩:=Oy.fn
 have UX:=OA.binds (ps:=["thing"]) λ_ _ _ _ _ _ us hl=>match us,hl with | [_],_=>rfl
 obtain ⟨UY,OB⟩:=aM s2 h28;have OC:=m UY;have UZ:=OB.keep;obtain ⟨X4,OD⟩:=OB.fn
 have U1:=OD.binds (ps:=["thing"]) λ_ _ _ _ _ _ us hl=>match us,hl with | [_],_=>rfl
 obtain ⟨U2,OE⟩:=aM s3 h29;have OF:=m U2;have U3:=OE.keep;obtain ⟨X5,OG⟩:=OE.fn
 have U4:=OG.binds (ps:=["field","thing"]) λ_ _ _ _ _ _ us hl=>match us,hl with | [_,_],_=>rfl
 obtain ⟨U5,OH⟩:=aM s4 h30;have OI:=m U5;have U6:=OH.keep;obtain ⟨X6,OJ⟩:=OH.fn
 have U7:=OJ.binds (ps:=["field","terms"]) λ_ _ _ _ _ _ us hl=>match us,hl with | [_,_],_=>rfl
 obtain ⟨U8,OK⟩:=aM s5 h31;have OL:=m U8;have ab9:=OK.keep;obtain ⟨X7,OM⟩:=OK.fn
 have U9:=OM.binds (ps:=["term"]) λ_ _ _ _ _ _ us hl=>match us,hl with | [_],_=>rfl
 obtain ⟨Va,ON⟩:=aM s6 h32;have Ke:=m Va;have OO:=ON.keep;obtain ⟨X8,OP⟩:=ON.fn
 have OQ:=OP.binds (ps:=["field","terms"]) λ_ _ _ _ _ _ us hl=>match us,hl with | [_,_],_=>rfl
 obtain ⟨Vb,OR⟩:=aM s7 h33;have OS:=m Vb;have Vc:=OR.keep;obtain ⟨X9,OT⟩:=OR.fn
 have Vd:=OT.binds (ps:=["one","other"]) λ_ _ _ _ _ _ us hl=>match us,hl with | [_,_],_=>rfl
 obtain ⟨Ve,OU⟩:=aM s8 h34;have IF:=m Ve;have Ma:=OU.keep;obtain ⟨Yb,OV⟩:=OU.fn
 have Mb:=OV.binds (ps:=["field","terms"]) λ_ _ _ _ _ _ us hl=>match us,hl with | [_,_],_=>rfl
 obtain ⟨Vf,OW⟩:=aM s9 h35;have Kf:=m Vf;have OX:=OW.keep;obtain ⟨Yc,OY⟩:=OW.fn
 have OZ:=OY.binds (ps:=["one","other"]) λ_ _ _ _ _ _ us hl=>match us,hl with | [_,_],_=>rfl
 obtain ⟨O0,Kg⟩:=aM HM h36;have Mc:=m O0;have O1:=Kg.keep;obtain ⟨Vg,Kh⟩:=Kg.fn
 have O3:=Kh.binds (ps:=["top","bottom"]) λ_ _ _ _ _ _ us hl=>match us,hl with | [_,_],_=>rfl
 obtain ⟨O4,Ki⟩:=aM HP h37;have Md:=m O4;have O5:=Ki.keep;obtain ⟨Vh,Kj⟩:=Ki.fn
 have O6:=Kj.binds (ps:=["_law_script","_law_k"]) λ_ _ _ _ _ _ us hl=>match us,hl with | [_,_],_=>rfl
 obtain ⟨O7,Kk⟩:=aM J6 h38;have F6:=m O7;have GJ:=Kk.keep;obtain ⟨Vi,Kl⟩:=Kk.fn
 have GK:=Kl.binds (ps:=["_law_room_here","_law_many"]) λ_ _ _ _ _ _ us hl=>match us,hl with | [_,_],_=>rfl
 obtain ⟨O8,Km⟩:=aM MR h39;have Hf:=m O8;have IG:=Km.keep;obtain ⟨Vj,Kn⟩:=Km.fn
 have IH:=Kn.binds (ps:=["_law_top","_law_bottom"]) λ_ _ _ _ _ _ us hl=>match us,hl with | [_,_],_=>rfl
 obtain ⟨O9,Ko⟩:=aM JB h40;have Me:=m O9;have Pa:=Ko.keep;obtain ⟨Vk,Kq⟩:=Ko.fn
 have Pb:=Kq.binds (ps:=["_law_thing"]) λ_ _ _ _ _ _ us hl=>match us,hl with | [_],_=>rfl
 obtain ⟨Pc,Kr⟩:=aM LX h41;have Mf:=m Pc;have Pd:=Kr.keep;obtain ⟨Vl,Ks⟩:=Kr.fn
 have Pe:=Ks.binds (ps:=["_law_prime_here","_law_thing"]) λ_ _ _ _ _ _ us hl=>match us,hl with | [_,_],_=>rfl
 obtain ⟨Pf,Kt⟩:=aM Uq h42;have IJ:=m Pf;have Ku:=Kt.keep;obtain ⟨Vm,Kv⟩:=Kt.fn
 have Kw:=Kv.binds (ps:=["_law_prime_here","_law_top","_law_bottom"]) λ_ _ _ _ _ _ us hl=>match us,hl with | [_,_,_],_=>rfl
 obtain ⟨Pg,Kx⟩:=aM RQ h43;have Mg:=m Pg;have Ph:=Kx.keep;obtain ⟨Vn,Kz⟩:=Kx.fn
 have Pj:=Kz.binds (ps:=["_law_prime_here","_law_one","_law_other"]) λ_ _ _ _ _ _ us hl=>match us,hl with | [_,_,_],_=>rfl
 obtain ⟨Pk,KA⟩:=aM Ur h44;have IK:=m Pk;have KC:=KA.keep;obtain ⟨Vo,KD⟩:=KA.fn
 have KG:=KD.binds (ps:=["_law_prime_here","_law_one","_law_other"]) λ_ _ _ _ _ _ us hl=>match us,hl with | [_,_,_],_=>rfl
 obtain ⟨Pl,KH⟩:=aM s19 h45;have Mh:=m Pl;have Pn:=KH.keep;obtain ⟨Vp,KI⟩:=KH.fn
 have Po:=KI.binds (ps:=["_law_room_here"]) λ_ _ _ _ _ _ us hl=>match us,hl with | [_],_=>rfl
 obtain ⟨Pp,KJ⟩:=aM MT h46;have IL:=m Pp;have KL:=KJ.keep;obtain ⟨Vq,KN⟩:=KJ.fn
 have KO:=KN.binds (ps:=["_law_room_here","_law_prime_here"]) λ_ _ _ _ _ _ us hl=>match us,hl with | [_,_],_=>rfl
 obtain ⟨Pq,KP⟩:=aM Oe h47;have Mi:=m Pq;have Pr:=KP.keep;obtain ⟨Vr,KQ⟩:=KP.fn
 have Pu:=KQ.binds (ps:=["_law_room_here","_law_many","_law_share"]) λ_ _ _ _ _ _ us hl=>match us,hl with | [_,_,_],_=>rfl
 obtain ⟨Px,KR⟩:=aM s22 h48;have Mj:=m Px;have Py:=KR.keep;obtain ⟨Vs,KS⟩:=KR.fn
 have Pz:=KS.binds (ps:=["_law_room_here","_law_prime_here","_law_many","_law_most"]) λ_ _ _ _ _ _ us hl=>match us,hl with | [_,_,_,_],_=>rfl
 obtain ⟨PB,KU⟩:=aM s23 h49;have Hg:=m PB;have IM:=KU.keep;obtain ⟨Vt,KW⟩:=KU.fn
 have IP:=KW.binds (ps:=["_law_prime_here","_law_terms_here"]) λ_ _ _ _ _ _ us hl=>match us,hl with | [_,_],_=>rfl
 obtain ⟨PD,KY⟩:=aM RN h50;have Ml:=m PD;have PF:=KY.keep;obtain ⟨Vu,KZ⟩:=KY.fn
 have PH:=KZ.binds (ps:=["_law_prime_here","_law_one","_law_other"]) λ_ _ _ _ _ _ us hl=>match us,hl with | [_,_,_],_=>rfl
 obtain ⟨PJ,K0⟩:=aM s25 h51;have Mm:=m PJ;have PK:=K0.keep;obtain ⟨Vv,K1⟩:=K0.fn
 have PL:=K1.binds (ps:=["_law_call"]) λ_ _ _ _ _ _ us hl=>match us,hl with | [_],_=>rfl
 obtain ⟨PM,K2⟩:=aM s26 h52;have IQ:=m PM;have K3:=K2.keep;obtain ⟨Vw,K4⟩:=K2.fn
 have K5:=K4.binds (ps:=["_law_one","_law_prime_here","_law_due"]) λ_ _ _ _ _ _ us hl=>match us,hl with | [_,_,_],_=>rfl
 obtain ⟨PN,K6⟩:=aM s27 h53;have Mn:=m PN;have PQ:=K6.keep;obtain ⟨Vx,K7⟩:=K6.fn
 have PR:=K7.binds (ps:=["_law_field","_law_prime_here","_law_one","_law_other"]) λ_ _ _ _ _ _ us hl=>match us,hl with | [_,_,_,_],_=>rfl
 obtain ⟨PU,K8⟩:=aM s28 h54;have Mo:=m PU;have PV:=K8.keep;obtain ⟨Vy,K9⟩:=K8.fn
 have PY:=K9.binds (ps:=["_law_field","_law_prime_here","_law_terms_here","_law_number_here"]) λ_ _ _ _ _ _ us hl=>match us,hl with | [_,_,_,_],_=>rfl
 obtain ⟨PZ,P4⟩:=aM s29 h55;have Vz:=h56;have aca:L2.Meth K _ "__eq__" _:=⟨PZ,h56,P4.keep⟩;obtain ⟨Yd,P6⟩:=P4.fn
 have VA:=P6.binds (ps:=["self","other"]) λ_ _ _ _ _ _ us hl=>match us,hl with | [_,_],_=>rfl
 obtain ⟨VB,P7⟩:=aM UE h57;have acb:=h58;have VC:L2.Meth K _ "field" _:=⟨VB,h58,P7.keep⟩;obtain ⟨Ye,P8⟩:=P7.fn
 have VD:=P8.binds (ps:=["self"]) λ_ _ _ _ _ _ us hl=>match us,hl with | [_],_=>rfl
 obtain ⟨VE,P9⟩:=aM Oh h59;have acd:=h60;have Qa:L2.Meth K _ "terms" _:=⟨VE,h60,P9.keep⟩;obtain ⟨Yg,Qb⟩:=P9.fn
 have Qc:=Qb.binds (ps:=["self"]) λ_ _ _ _ _ _ us hl=>match us,hl with | [_],_=>rfl
 obtain ⟨VF,Qd⟩:=aM Oi h61;have ace:=h62;have Qe:L2.Meth K _ "is_like" _:=⟨VF,h62,Qd.keep⟩;obtain ⟨Yh,Qf⟩:=Qd.fn
 have Qg:=Qf.binds (ps:=["self","thing"]) λ_ _ _ _ _ _ us hl=>match us,hl with | [_,_],_=>rfl
 obtain ⟨VG,Qh⟩:=aM s33 h63;have acf:=h64;have VH:L2.Meth K _ "plus" _:=⟨VG,h64,Qh.keep⟩;obtain ⟨Yi,Qi⟩:=Qh.fn
 have VI:=Qi.binds (ps:=["self","other"]) λ_ _ _ _ _ _ us hl=>match us,hl with | [_,_],_=>rfl
 obtain ⟨VJ,Qj⟩:=aM s34 h65;have acg:=h66;have VL:L2.Meth K _ "times" _:=⟨VJ,h66,Qj.keep⟩;obtain ⟨Yj,Qk⟩:=Qj.fn
 have VM:=Qk.binds (ps:=["self","other"]) λ_ _ _ _ _ _ us hl=>match us,hl with | [_,_],_=>rfl
 obtain ⟨VN,Ql⟩:=aM NU h67;have ach:=h68;have Qm:L2.Meth K _ "scaled" _:=⟨VN,h68,Ql.keep⟩;obtain ⟨Yk,Qn⟩:=Ql.fn
 have Qo:=Qn.binds (ps:=["self","number"]) λ_ _ _ _ _ _ us hl=>match us,hl with | [_,_],_=>rfl
 obtain ⟨Mp,Qp⟩:=aM s36 h69;have Qq:=h70;have aci:L2.Meth K _ "__eq__" _:=⟨Mp,h70,Qp.keep⟩;obtain ⟨Yl,Qr⟩:=Qp.fn
 have Qs:=Qr.binds (ps:=["self","other"]) λ_ _ _ _ _ _ us hl=>match us,hl with | [_,_],_=>rfl
 obtain ⟨VO,Qt⟩:=aM J5 h71;have acj:=h72;have VP:L2.Meth K _ "plus" _:=⟨VO,h72,Qt.keep⟩;obtain ⟨Ym,Qu⟩:=Qt.fn
 have VQ:=Qu.binds (ps:=["self","one","other"]) λ_ _ _ _ _ _ us hl=>match us,hl with | [_,_,_],_=>rfl
 obtain ⟨VR,Qv⟩:=aM s38 h73;have ack:=h74;have Qw:L2.Meth K _ "times" _:=⟨VR,h74,Qv.keep⟩;obtain ⟨Yn,Qx⟩:=Qv.fn
 have Qy:=Qx.binds (ps:=["self","one","other"]) λ_ _ _ _ _ _ us hl=>match us,hl with | [_,_,_],_=>rfl
 obtain ⟨VS,Qz⟩:=aM s39 h75;have acm:=h76;have QA:L2.Meth K _ "settled" _:=⟨VS,h76,Qz.keep⟩;obtain ⟨Yo,QB⟩:=Qz.fn
 have QC:=QB.binds (ps:=["self","top","bottom"]) λ_ _ _ _ _ _ us hl=>match us,hl with | [_,_,_],_=>rfl
 obtain ⟨VT,QD⟩:=aM s40 h77;have acn:=h78;have QE:L2.Meth K _ "is_number" _:=⟨VT,h78,QD.keep⟩;obtain ⟨Yp,QF⟩:=QD.fn
 have QG:=QF.binds (ps:=["self","thing"]) λ_ _ _ _ _ _ us hl=>match us,hl with | [_,_],_=>rfl
 obtain ⟨VU,QH⟩:=aM s41 h79;have aco:=h80;have VV:L2.Meth K _ "prime" _:=⟨VU,h80,QH.keep⟩;obtain ⟨Yq,QI⟩:=QH.fn
 have VW:=QI.binds (ps:=["self"]) λ_ _ _ _ _ _ us hl=>match us,hl with | [_],_=>rfl
 obtain ⟨QJ,QK⟩:=mJ s42 h81 h83;have VX:=h82;have acp:L2.Meth K _ "__init__" _:=⟨QJ,h82,QK.keep⟩;obtain ⟨Yr,Mq⟩:=QK.fn;obtain ⟨acq,acr,acs,Lc,Ld,QL⟩:=jf h84;obtain ⟨QM,QN⟩:=mJ s43 h85 h87;have VY:=h86;have acu:L2.Meth K _ "__init__" _:=⟨QM,h86,QN.keep⟩;obtain ⟨Ys,QO⟩:=QN.fn;obtain ⟨acv,acw,acx,QP,QQ,QR⟩:=jf h88;have QS:=mQ QL;subst QS;obtain ⟨acy,QT⟩:=jC QR;subst QT;have Yt:=BQ Mq Lc Ld;have VZ:=zJ Mq Lc Ld;have bFI:=CJ QO QP QQ;have N:Nones mg:=⟨E8,m_int,L7⟩;have cF:FieldK K mg (ga K "Field"):=⟨⟨h89,h90,h91,cB h92⟩,bo h93,JE,(Bool.and_eq_true_iff.mpr h94),cB h95,cB h96,b8 h97,b8 h98⟩;have c:SumK K mg (ga K "Sum"):=⟨⟨h99,h100,h101,cB h102⟩,bo h103,bo h104,Ou⟩;have cQ:SumQ K mg (ga K "Sum"):=⟨c,(Bool.and_eq_true_iff.mpr h105),cB h106,cB h96,b8 h97,b8 h107⟩;have hP:=sW h108;have RF:Refs K mg _ _ _ _:=⟨Gk,F4,JF,F5,Gj,⟨h109,cB h110,bo h111,cB h112,b8 h113,b8 h114⟩,⟨h115,cB h116,bo h117,cB h118,b8 h119,b8 h120⟩,b8 h121,b8 h122,b8 h123,b8 h124,b8 h125,b8 h126,b8 h127,b8 h128,b8 h129,b8 h130⟩;obtain ⟨e_A,d_A⟩:=tV s44 h135 h136;have V0:=hfa.symm.trans (m e_A)
 cases V0
 obtain ⟨acC,acD,V1,QU,V2,V3,V4,Yu,l_A,c_A,_⟩:=d_A;refine ⟨fnOf "law" "law" (cg e8) (bz e8) (aq e8) .none V1 QU V2 V3 (.ref (gL K).1) V4,λs v=>.of_eq rfl,λbase _ _ BT=>?_⟩;have Mr:=yr (P:=l.prog) (w:=w) (base:=base) Ow N;have QV:=uE (P:=l.prog) (w:=w) (base:=base) Kq N;have QW:=BE (P:=l.prog) (w:=w) (base:=base) OY Kc;have QX:=uk (P:=l.prog) (w:=w) (base:=base) Kh QW OZ Kf OX;have QY:=qB (P:=l.prog) (w:=w) (base:=base) QB cF Fw QX O3 Mc O1;have V5:=yO (P:=l.prog) (w:=w) (base:=base) Qu cF QY QC QA;have QZ:=wm (P:=l.prog) (w:=w) (base:=base) Qx cF QY QC QA;have V6:=yK (P:=l.prog) (w:=w) (base:=base) QO cF Mr L9 IE L8 Fw ID hP HI h131;have Q0:=pB (P:=l.prog) (w:=w) (base:=base) QF cF Fw N Fc m_len QW OZ Kf OX Mr L9 IE L8;have Q1:=CM (P:=l.prog) (w:=w) (base:=base) Qr cF N;have V7:=xy (P:=l.prog) (w:=w) (base:=base) QI cF;have V8:=yo (P:=l.prog) (w:=w) (base:=base) OA F9 Mr L9 IE L8;have V9:=p5 (P:=l.prog) (w:=w) (base:=base) OD E8 Fc Hn Ie V8 UX Oz UW;have Wa:=zH (P:=l.prog) (w:=w) (base:=base) OG cF E8 Fc m_len V9 U1 OC UZ Q0 QG QE;have Wb:=qv (P:=l.prog) (w:=w) (base:=base) OM m_len;have Wc:=qC (P:=l.prog) (w:=w) (base:=base) OJ E8 FH Fv Wa U4 OF U3;have Q2:=zz (P:=l.prog) (w:=w) (base:=base) OP cF Ff V5 VQ VP Wb U9 OL;have Ms:=wk (P:=l.prog) (w:=w) (base:=base) Mq c Q2 OQ Ke OO Wc U7 OI U6;have Wd:L2.Mk K _ _:=⟨h139,QJ,VX,h140⟩;have MkF:L2.Mk K _ _:=⟨h141,QM,VY,h142⟩;have Mt:=v5 (P:=l.prog) (w:=w) (base:=base) OV c Wd Ms VZ Q2 OQ Ke OO;have We:=BO (P:=l.prog) (w:=w) (base:=base) (mg:=mg) OT Fc Ff Gb;have Wf:=Ba (P:=l.prog) (w:=w) (base:=base) P6 cQ cF E8 Q1 Qs Mp Qq;have Wg:=uH (P:=l.prog) (w:=w) (base:=base) (CF:=ga K "Field") P8 c;have Q3:=uo (P:=l.prog) (w:=w) (base:=base) (CF:=ga K "Field") Qb c FH;have Q4:=z9 (P:=l.prog) (w:=w) (base:=base) Qf cQ cF E8 Q1 Qs Mp Qq;have Wh:=w8 (P:=l.prog) (w:=w) (base:=base) Qi cQ F5 h133 Q4 Qg Qe Mt Mb IF Ma;have Wi:=ug (P:=l.prog) (w:=w) (base:=base) Qk cQ cF F5 h133 Q4 Qg Qe We Vd OS Vc QZ Qy Qw Mt Mb IF Ma;have Q5:=uh (P:=l.prog) (w:=w) (base:=base) Qn cQ cF F4 h132 Q0 QG QE QZ Qy Qw Mt Mb IF Ma;have Q6:=zP (P:=l.prog) (w:=w) (base:=base) Kj m_len;have GL:=y4 (P:=l.prog) (w:=w) (base:=base) (mg:=mg) Kl;have IS:=zf (P:=l.prog) (w:=w) (base:=base) Kn Kc m_int;have Q7:=zi (P:=l.prog) (w:=w) (base:=base) Ks E8 Fc m_len QV Pb Me Pa IS IH Hf IG;have Le:=zj (P:=l.prog) (w:=w) (base:=base) Kv IS IH Hf IG;have Q8:=xc (P:=l.prog) (w:=w) (base:=base) Kz Le Kw IJ Ku;have Lf:=uU (P:=l.prog) (w:=w) (base:=base) KD Le Kw IJ Ku;have Q9:=vg (P:=l.prog) (w:=w) (base:=base) KI GL GK F6 GJ;have Lg:=ua (P:=l.prog) (w:=w) (base:=base) KN GL GK F6 GJ IS IH Hf IG;have Ra:=xT (P:=l.prog) (w:=w) (base:=base) KQ Fc m_range GL GK F6 GJ;have Rb:=u5 (P:=l.prog) (w:=w) (base:=base) KS m_range GL GK F6 GJ Ra Pu Mi Pr Lg KO IL KL;have IT:=vY (P:=l.prog) (w:=w) (base:=base) KW Ff m_len Q8 Pj Mg Ph;have Rc:=xn (P:=l.prog) (w:=w) (base:=base) KZ Fc Ff Gb Lf KG IK KC IT IP Hg IM;have Rf:=zL (P:=l.prog) (w:=w) (base:=base) (kk:=10) K1 RF E8;have Lh:=yk (P:=l.prog) (w:=w) (base:=base) K4 cQ cF E8 Wg VD VC Q3 Qc Qa V7 VW VV;have Rg:=p7 (P:=l.prog) (w:=w) (base:=base) K9 cQ Lf KG IK KC IT IP Hg IM Lh K5 IQ K3 Wd Ms Yt Q5 Qo Qm;have WB:AllB l.prog w K mg base _ _ _ _ (ga K "NoNumber") _ _ _ _:={ c:=cQ,cF:=cF,M:=Wd,FI:=Ms,bI:=Yt,MF:=MkF,FFI:=V6,bFFI:=bFI,ne:=cB h134,eq:=⟨_,_,Wf,VA,PZ,Vz⟩,gather:=⟨_,_,IT,IP,Hg,IM⟩,isSum:=⟨_,_,Lh,K5,IQ,K3⟩,mult:=⟨_,_,Rc,PH,Ml,PF⟩,plus:=⟨_,_,Wh,VI,VH⟩,times:=⟨_,_,Wi,VM,VL⟩ };have Rh:=zh K7 WB;have W:AllL l.prog w K mg base _ _ _ _ _ _ _ (gL K).1 (gL K).2 _ _:={ B:=WB,room:=⟨_,_,Q6,O6,Md,O5⟩,prime:=⟨_,_,Q9,Po,Mh,Pn⟩,terms:=⟨_,_,Rb,Pz,Mj,Py⟩,take:=⟨_,_,GL,GK,F6,GJ⟩,number:=⟨_,_,Lg,KO,IL,KL⟩,both:=⟨_,_,Rh,PR,Mn,PQ⟩,lscaled:=⟨_,_,Rg,PY,Mo,PV⟩,isN:=⟨_,_,Q7,Pe,Mf,Pd⟩,kind:=⟨_,_,Rf,PL,Mm,PK⟩,scl:=⟨_,_,Q5,Qo,Qm⟩,sterms:=⟨_,_,Q3,Qc,Qa⟩,hd:=BT.hd _ (List.mem_singleton.mpr rfl),bm:=BT.bm,m_max:=m_max,m_min:=m_min,m_len:=m_len,m_range:=m_range,m_int:=m_int };exact Bw l_A c_A W
theorem vx {K:Frag}(o:rh K=dueK):(tabIn K "law").isSome=true/\(K.lookup (gL K).2).isNone=true:=by
 obtain ⟨o1,_⟩:=Prod.mk.inj (show (ke K,_)=(true,_) from o);unfold ke at o1;simp only [Bool.and_eq_true] at o1;obtain ⟨g0,g1,g2,g3,g4,g5,g6,g7,g8⟩:=o1;unfold Er at g0;simp only [Bool.and_eq_true] at g0;obtain ⟨h0,h1,h2,h3,h4,h5,h6,h7,h8,h9,h10,h11,h12,h13,h14,h15⟩:=g0;unfold Ec at g1;simp only [Bool.and_eq_true] at g1;obtain ⟨h16,h17,h18,h19,h20,h21,h22,h23,h24,h25,h26,h27,h28,h29,h30,h31⟩:=g1;unfold Em at g2;simp only [Bool.and_eq_true] at g2;obtain ⟨h32,h33,h34,h35,h36,h37,h38,h39,h40,h41,h42,h43,h44,h45,h46,h47⟩:=g2;unfold Eo at g3;simp only [Bool.and_eq_true] at g3;obtain ⟨h48,h49,h50,h51,h52,h53,h54,h55,h56,h57,h58,h59,h60,h61,h62,h63⟩:=g3;unfold En at g4;simp only [Bool.and_eq_true] at g4;obtain ⟨h64,h65,h66,h67,h68,h69,h70,h71,h72,h73,h74,h75,h76,h77,h78,h79⟩:=g4;unfold Ed at g5;simp only [Bool.and_eq_true] at g5;obtain ⟨h80,h81,h82,h83,h84,h85,h86,h87,h88,h89,h90,h91,h92,h93,h94,h95⟩:=g5;unfold DV at g6;simp only [Bool.and_eq_true] at g6;obtain ⟨h96,h97,h98,h99,h100,h101,h102,h103,h104,h105,h106,h107,h108,h109,h110,h111⟩:=g6;unfold EA at g7;simp only [Bool.and_eq_true] at g7;obtain ⟨h112,h113,h114,h115,h116,h117,h118,h119,h120,h121,h122,h123,h124,h125,h126,h127⟩:=g7;unfold DP at g8;simp only [Bool.and_eq_true] at g8;obtain ⟨h128,h129,h130,h131,h132,h133,h134,h135,h136,h137,h138,h139,h140,h141,h142⟩:=g8;exact ⟨h137,h138⟩
theorem walk {l:OpenLaw}{q:Program}{loose:List Str}{XP:(Str->Option Value)->Heap->Prop}{d:DefRec}(hn:l.most=some 63)(Nb:d.params.defaults=[])(hd:d.name="law")
 (hr:((PyProof.Rows.recsOf q).find? (λe=>e.name == ("law":Str))).isSome=true):
 WalkO q loose XP vL l.row.toRowW d [] (λf vs=>PySem.call f vs):=by
 refine Hd.vv (n:=63) (k:=12) (x:="_law_script") (CX:=λw=>aV l.prog w) (sp:=λK=>tT K (gL K).2) (φ:=λK=>rh K=dueK) (tabs:=λK=>[gL K]) hn (by decide) Nb ⟨rfl,by decide,by decide,rfl⟩ (λw h y=>y) ?_ (λw K mg fa h o X G e=>p6 o X G (by rw [<-hd]; exact e)) ?_ ?_
 ·intro w s₀ mg mb h K o Gr KX;obtain ⟨ht,hk⟩:=vx o
  have e:tabIn K "law"=some (gL K):=by
   unfold gL
   cases q:tabIn K "law" with
   | none=>rw [q] at ht; cases ht
   | some v=>rfl
  obtain ⟨dl,Nz⟩:=Option.isSome_iff_exists.mp hr;have tb:=tab_of Gr.T KX Nz e;refine ⟨λr Iz=>?_,λr Iz=>?_⟩
  ·have z:r=gL K:=by simpa using Iz
   subst z;exact tb
  ·have z:r=gL K:=by simpa using Iz
   subst z
   cases q:K.lookup (gL K).2 with
   | none=>rfl
   | some v=>rw [q] at hk; cases hk
 ·intro K H a ns hl hO hS;refine ⟨a,ns,rfl,?_,hl,⟨#[],hO.2 _ (List.mem_singleton.mpr rfl),True.intro,λpos _=>.inl rfl⟩,λ_=>rfl⟩
  rcases hS with (hS | ⟨o,hS⟩) | hS
  ·rcases hO.1 a with z | ⟨o,xs,z⟩ | ⟨z,_⟩
   ·rw [z] at hS; cases hS
   ·rw [z] at hS; cases hS
   ·rw [z] at hS; cases hS
  ·exact .inl ⟨o,hS⟩
  ·exact .inr hS
 ·intro w H s e s' z;obtain ⟨a,cls,a0,B,d,H',_,_,_,_,hE⟩:=z;exact hE.elim
end K06
open PySem PySem.W PyProof.Rows
set_option maxRecDepth 100000 in
set_option maxHeartbeats 0 in
theorem PySem.Challenge.cw_falsesums_k06_sums_and_products_holds : PySem.Challenge.rw_falsesums_k06_sums_and_products.Holds := by
 w_on; o_law
 refine PySem.W.holds_open (r:=PySem.Challenge.rw_falsesums_k06_sums_and_products.row) (q:=K06.gQ) (loose:=["STEP","Field"]) (Xt:=λs=>xlAt K06.gQ K06.lv s&&recOk (PySem.Challenge.rw_falsesums_k06_sums_and_products.row.toRowW).records s) (XP:=XL K06.gQ K06.lv)
  (Yf:=λs=>K06.rh (Hd.vV K06.qm s.heap)) (Ya:=λ_=>K06.dueK) (YP:=K06.vL) (N:=7328) ?hl K06.yL K06.qr (λs e=>xl_of s (Bool.and_eq_true_iff.mp e).1) XL.keeps (by rfl) (by rfl) (by rfl) (λs e=>recFacts_of (Bool.and_eq_true_iff.mp e).2) (by rfl) (by assumption) (by decide +kernel) ⟨rfl,rfl,rfl,rfl,rfl,by decide +kernel⟩ ?hw ?hc
 case hw=>w_witness2
 case hl=>exact Hd.yy K06.ran1 K06.ran3 K06.ran4
 case hc=>exact K06.walk rfl rfl rfl (by kernel_rfl)
