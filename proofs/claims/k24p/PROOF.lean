import PyProof.Rows.All
import Wide.All
import OpenK.AllK
import Wide.FinOn
import Lean
import PyProof.EqAt
import PyProof.EqKinds
import PyProof.TupleCall
import PyProof.NeKinds
import KE.LcSums
import KE.KPairComp
import PyProof.EnumMake
import PyProof.EnumFor
import PyProof.ZipIter
import PyProof.Draws
import KE.KSortTup
import PyProof.Rows.SortWalk
import PyProof.Rows.MinMaxN
import PyProof.Rows.SetFrom
import PyProof.WalkInts
import KE.KSortKey
import KE.KDictOf
import PyProof.AttrMissHeap
import PyProof.Walks
import KE.KEqDict
import PyProof.ReprRoads
import PyProof.Rows.RegStrFacts
import PyProof.Rows.SumAny
import PyProof.Rows.TupAdd
import PyProof.ListRange
import PySem.Challenge.RW_falsesums_k24_worths_of_sums
set_option Elab.async false
set_option linter.all false
set_option maxRecDepth 100000
abbrev yg:=PySem.Value->PySem.Shared->Prop
abbrev FA:=PySem.Str->Option PySem.Value
abbrev Fp:=PySem.Shared
abbrev ET:=PySem.FuncData
abbrev vQ:=PySem.Program
abbrev Eh:=Option PySem.Value
abbrev qw:=List PySem.Value
abbrev Cm:=Array PySem.Value
abbrev rY:=List PySem.Stmt
abbrev Bo:=List PySem.Expr
abbrev wk:=List PySem.Str
abbrev CC:=Option PySem.Addr
abbrev DP:=Array (Option PySem.Value)
abbrev oX:List PySem.Str:=["thing"]
abbrev ER:List PySem.Str:=["self","top","bottom"]
abbrev Es:List PySem.Str:=["_law_prime_here","_law_one","_law_other"]
abbrev Ft:List PySem.Str:=["_law_room_here","_law_many"]
abbrev uE:List PySem.Str:=["one","other"]
abbrev qD:List PySem.Str:=["field","terms"]
abbrev Cz:List PySem.Str:=["_law_prime_here","_law_top","_law_base"]
abbrev yi:List PySem.Str:=["_law_room_here","_law_prime_here"]
abbrev CT:List PySem.Str:=["worths","degree"]
abbrev Eo:List PySem.Str:=["top","bottom"]
abbrev yY:List PySem.Str:=["_law_top","_law_base"]
abbrev Fv:List PySem.Str:=["self","product"]
abbrev BV:List PySem.Str:=["self","prime"]
abbrev yk:List PySem.Str:=["self","one","other"]
abbrev sf:List PySem.Str:=["field","thing"]
abbrev xR:List PySem.Str:=["self","field","terms"]
abbrev rW:List PySem.Str:=["_law_room_here","_law_many","_law_share"]
abbrev ES:List PySem.Str:=["number","prime"]
abbrev vG:List PySem.Str:=["_law_script","_law_k"]
abbrev rE:List PySem.Str:=["_law_room_here"]
abbrev qj:List PySem.Str:=["self","thing"]
abbrev rR:List PySem.Str:=["_law_prime_here","_law_terms_here"]
abbrev DN:List PySem.Str:=["_law_room_here","_law_prime_here","_law_many","_law_most"]
abbrev yd:List PySem.Str:=["worths","one"]
abbrev uU:List PySem.Str:=["_law_many","_law_most"]
abbrev C8:List PySem.Str:=["_law_worths","_law_one"]
abbrev vK:List PySem.Str:=["_law_field","_law_prime_here","_law_worths","_law_rows"]
abbrev Er:List PySem.Str:=["_law_worths","_law_degree"]
namespace L2
open PySem
theorem A5:(1:Nat)<=sizeLine:=by decide
theorem BJ:(2:Nat)<=sizeLine:=by decide
theorem D7:(3:Nat)<=sizeLine:=by decide
theorem Fd:(4:Nat)<=sizeLine:=by decide
theorem aaL:(7:Nat)<=sizeLine:=by decide
noncomputable def br (s:Stmt)(j:Nat):Stmt:=match s with
 | .ClassDef _ _ _ body _ _ _ _ _ _ _=>body.getD j (.Pass ⟨0,0,0,0⟩)
 |_=>.Pass ⟨0,0,0,0⟩
noncomputable def bH (s:Stmt):Arguments:=match s with
 | .FunctionDef _ a _ _ _ _ _ _ _ _=>a
 |_=>{posonlyargs:=[],args:=[],vararg:=none,kwonlyargs:=[],kw_defaults:=[],kwarg:=none,defaults:=[]}
noncomputable def bo (s:Stmt):List Stmt:=match s with
 | .FunctionDef _ _ b _ _ _ _ _ _ _=>b
 |_=>[]
noncomputable def ao (s:Stmt):Scope:=match s with
 | .FunctionDef _ _ _ _ _ _ sc _ _ _=>sc
 |_=>{kind:=.function,names:=[],isGenerator:=false,isCoroutine:=false}
end L2
namespace Hd
open PySem PySem.W PyProof.Rows
noncomputable def ya (as:List Addr)(h:Heap):Frag:=as.filterMap λa=>(h.get? a).map λo=>(a,o)
theorem oG (h:Heap):∀as:List Addr,(ya as h).In h
 |[],a,o,e=>by cases e
 |b::as,a,o,e=>by
  unfold ya at e;rw[List.filterMap_cons] at e
  cases q:h.get? b with
  |none =>
   rw[q] at e;exact oG h as a o e
  |some u =>
   rw[q] at e;dsimp only[Option.map_some] at e;rw[List.lookup_cons] at e
   by_cases z:a=b
   ·subst z;simp only[beq_self_eq_true] at e;rw[q];exact e
   ·have:(a==b)=false:=by simpa using z
    simp only[this] at e;exact oG h as a o e
noncomputable abbrev si:=Str×Str×Arguments×FuncBody×Scope×Addr×List (Str×Addr)×Value×Addr
noncomputable def AH (fd:ET):si:=(fd.name,fd.qualname,fd.params,fd.body,fd.scope,fd.globals,fd.closure,fd.defaults,fd.builtins)
noncomputable def j6 (K:Frag)(v:Option (Option Value)):Option FuncData:=match v with
 |some (some (.ref f))=>(match K.lookup f with
  |some ⟨_,_,.func fd,_⟩=>some fd
  |_=>none)
 |_=>none
noncomputable def aU (K:Frag)(v:Option (Option Value)):Option si:=(j6 K v).map AH
noncomputable def dy (x qual:Str)(st:Stmt):Option si:=some (x,qual,L2.bH st,.stmts (L2.bo st),L2.ao st,mainGlobals,[],.none,builtinsNs)
noncomputable def c4 (v:Option (Option Value)):Addr:=match v with
 |some (some (.ref a))=>a
 |_=>0
noncomputable def dO (v:Option (Option Value)):Bool:=match v with
 |some (some (.ref _))=>true
 |_=>false
variable {v:Option (Option Value)}
theorem b7 (h:dO v=true):v=some (some (.ref (c4 v))):=by
 unfold dO at h
 split at h
 ·rfl
 ·cases h
noncomputable def cQ (v:Option (Option Value)):Bool:=match v with
 |some none=>true
 |_=>false
theorem aR (h:cQ v=true):v=some none:=by
 unfold cQ at h
 split at h
 ·rfl
 ·cases h
noncomputable def dn (K:Frag)(v:Option (Option Value))(qual:Str):Bool:=keepIn K (.ref (c4 v))&&(match j6 K v with
 |some fd=>codeIn K fd.code qual
 |none=>false)
noncomputable abbrev gv (K:Frag)(x:Str):Option (Option Value):=nsIn K mainGlobals x
noncomputable abbrev ga (K:Frag)(x:Str):Addr:=c4 (nsIn K mainGlobals x)
noncomputable abbrev fv (K:Frag)(c x:Str):Option (Option Value):=findIn K (.ref (c4 (nsIn K mainGlobals c))) x
noncomputable def gQ (K:Frag)(v:Option (Option Value)):Option si:=(j6 K v).map λfd=>AH {fd with defaults:=.none}
noncomputable def DV (K:Frag)(v:Option (Option Value)):Value:=match j6 K v with
 |some fd=>fd.defaults
 |none=>.none
noncomputable def nO (K:Frag)(v:Option (Option Value)):Addr:=match DV K v with
 | .ref a=>a
 |_=>0
noncomputable def rT (K:Frag)(v:Option (Option Value)):Bool:=match DV K v with
 | .ref _=>true
 |_=>false
noncomputable def wu (K:Frag)(v:Option (Option Value))(c:Addr):Bool:=match j6 K v with
 |some fd=>(match fd.code with
  | .ref a=>a==c
  |_=>false)
 |none=>false
noncomputable def rD (K:Frag)(T:Addr)(p:Value->Bool):Bool:=match K.lookup T with
 |some o=>(match o.data with
  | .seq a _=>(match a.toList with
    |[v]=>p v
    |_=>false)
  |_=>false)
 |none=>false
theorem ia {K:Frag}{T:Addr}{p:Value->Bool}(h:rD K T p=true):∃o v n,K.lookup T=some o/\o.data=.seq #[v] n/\p v=true:=by
 unfold rD at h
 split at h
 ·rename_i o ho
  split at h
  ·rename_i a n hd
   split at h
   ·rename_i v hv
    have:a = #[v]:=by rw[<-Array.toArray_toList (xs:=a),hv]
    subst this;exact⟨o,v,n,ho,hd,h⟩
   ·cases h
  ·cases h
 ·cases h
noncomputable def Ay (n:Int)(v:Value):Bool:=match v with
 | .int i _=>i==n
 |_=>false
theorem iK {n:Int}{v:Value}(h:Ay n v=true):∃t,v=.int n t:=by
 unfold Ay at h
 split at h
 ·rename_i i t
  have:i=n:=by simpa using h
  exact⟨t,by rw[this]⟩
 ·cases h
noncomputable def wO (v:Value):Bool:=match v with
 | .none=>true
 |_=>false
theorem oF {v:Value}(h:wO v=true):v=.none:=by
 unfold wO at h
 split at h
 ·rfl
 ·cases h
noncomputable def qF (v:Option (Option Value))(n:Int):Bool:=match v with
 |some (some u)=>Ay n u
 |_=>false
theorem iC {n:Int}(h:qF v n=true):∃t,v=some (some (.int n t)):=by
 unfold qF at h
 split at h
 ·obtain⟨t,rfl⟩:=iK h;exact⟨t,rfl⟩
 ·cases h
noncomputable def ue:List Value->List Int->Bool
 |[],[]=>true
 |v::vs,n::ns=>Ay n v&&ue vs ns
 |_,_=>false
noncomputable def wx (K:Frag)(a:Addr)(ns:List Int):Bool:=match K.lookup a with
 |some o=>(match o.cls with
  | .type T=>T == "tuple"
  |_=>false)&&(match o.data with
  | .seq its _=>ue its.toList ns&&decide (its.size<=sizeLine)
  |_=>false)
 |none=>false
noncomputable def xv (K:Frag):Bool:=match K.lookup sysModules with
 |some o=>(match o.cls with
  | .type T=>T == "dict"
  |_=>false)
 |none=>false
noncomputable def iR (v:Option (Option Value))(s:String):Bool:=match v with
 |some (some (.builtin t))=>t==s
 |_=>false
theorem cX {s:String}(h:iR v s=true):v=some (some (.builtin s)):=by
 unfold iR at h
 split at h
 ·rename_i t
  have:t=s:=by simpa using h
  rw[this]
 ·cases h
noncomputable def jd (v:Option Bool)(b:Bool):Bool:=match v with
 |some c=>c==b
 |none=>false
theorem cE {v:Option Bool}{b:Bool}(h:jd v b=true):v=some b:=by
 unfold jd at h
 split at h
 ·rename_i c
  have:c=b:=by simpa using h
  rw[this]
 ·cases h
noncomputable def Ae:List Obj->BT->Nat->Option BT
 |[],t,_=>some t
 |o::os,t,n=>match ((t.ins n o).get n).isSome with
  |true=>Ae os (t.ins n o) (n+1)
  |false=>none
theorem uj (life:Life):∀(os:List Obj)(t t':BT)(n:Nat),Ae os t n=some t'->(absHeap t' (n+os.length) life).objs=(absHeap t n life).objs++os.toArray
 |[],t,t',n,h=>by
  cases h
  simp
 |o::os,t,t',n,h=>by
  unfold Ae at h
  cases q:((t.ins n o).get n).isSome with
  |false=>rw[q] at h;cases h
  |true =>
   rw[q] at h;have e:=uj life os _ _ _ h;rw[absHeap_ins q] at e
   have:n+1+os.length=n+(o::os).length:=by simp only[List.length_cons];omega
   rw[this] at e;rw[e];show((absHeap t n life).objs.push o)++os.toArray=_;rw[<-Array.append_singleton,Array.append_assoc];simp
noncomputable def EN (s:Fp):Option SharedT:=(Ae s.heap.objs.toList .nil 0).map λt=>⟨t,s.heap.objs.size,s.heap.life,s.gens,s.drawn,s.toks,s.os⟩
theorem aar {s:Fp}{x:SharedT}(h:EN s=some x):x.abs=s:=by
 unfold EN at h;obtain⟨t,e,rfl⟩:=Option.map_eq_some_iff.mp h;have g:=uj s.heap.life _ _ _ _ e;obtain⟨⟨objs,life⟩,gens,drawn,toks,os⟩:=s
 have z:absHeap t objs.size life=⟨objs,life⟩:=by
  have a:(absHeap t objs.size life).objs=objs:=by
   have l:0+objs.toList.length=objs.size:=by simp
   rw[l] at g;rw[g];simp[absHeap,BT.list]
  exact congrArg (Heap.mk · life) a
 show Shared.mk _ _ _ _ _=_;rw[z]
noncomputable def jr (tb:String->Option Builtin)(p:vQ)(w:World)(n₀:Nat)(ann:Eh):Nat->SharedT->Thread->Option SharedT
 |0,_,_=>none
 |n+1,s,t=>match through t with
  |true=>some s
  |false=>match stepOk n₀ ann t with
   |false=>none
   |true=>match stepT (denote tb) p w s t with
    |some (s',t')=>jr tb p w n₀ ann n s' t'
    |none=>none
section
variable {tb:String->Option Builtin}{p:vQ}{w:World}{n₀:Nat}{ann:Eh}
theorem km:∀{n:Nat}{s s':SharedT}{t:Thread},jr tb p w n₀ ann n s t=some s'->topRun tb p w n₀ ann n s.abs t=some s'.abs
 |0,_,_,_,h=>by cases h
 |n+1,s,s',t,h=>by
  unfold jr at h;unfold topRun
  cases he:through t with
  |true=>rw[he] at h;cases h;rfl
  |false =>
   rw[he] at h
   cases hk:stepOk n₀ ann t with
   |false=>rw[hk] at h;cases h
   |true =>
    rw[hk] at h
    cases hs:stepT (denote tb) p w s t with
    |none=>rw[hs] at h;cases h
    |some r=>obtain⟨s₂,t₂⟩:=r;rw[hs] at h;rw[stepT_spec hs];exact km h
end
noncomputable def j5 (tb:String->Option Builtin)(p:vQ)(w:World)(N:Nat)(s₀:Fp):Option SharedT :=
 match s₀.heap.isNs mainGlobals&&s₀.gens.size==0 with
 |true=>(EN s₀).bind λx=>(jr tb p w s₀.heap.objs.size (s₀.heap.nsMap mainGlobals "__annotations__") N x (topStub p)).bind λs₁=>match staticsOk (importedModules p.main.body) s₀.heap s₁.abs.heap&&namesBound p s₁.abs.heap&&gensDone s₁.abs&&laidKept s₀.heap s₁.abs.heap with
  |true=>some s₁
  |false=>none
 |false=>none
variable {p:vQ}{N:Nat}
theorem abn {tb:String->Option Builtin}{w:World}{s:Fp}{y:SharedT}(h:j5 tb p w N s=some y):topFrom tb p w N s=some y.abs:=by
 unfold j5 at h;unfold topFrom
 cases q:(s.heap.isNs mainGlobals&&s.gens.size==0) with
 |false=>rw[q] at h;cases h
 |true =>
  rw[q] at h;obtain⟨x,ex,h⟩:=Option.bind_eq_some_iff.mp h;obtain⟨z,ez,h⟩:=Option.bind_eq_some_iff.mp h;have e:=km ez;rw[aar ex] at e;dsimp only;rw[e];show(match (staticsOk (importedModules p.main.body) s.heap z.abs.heap&&namesBound p z.abs.heap&&gensDone z.abs&&laidKept s.heap z.abs.heap) with|true=>some z.abs|false=>none)=_
  split at h
  ·cases h
   rename_i q2
   simp only[q2]
  ·cases h
noncomputable def bu (tb:String->Option Builtin)(p:vQ)(w:World)(N:Nat):Option SharedT:=(fencedOpening tb p w N).bind (j5 tb p w N)
theorem aat {tb:String->Option Builtin}{w:World}{y:SharedT}(h:bu tb p w N=some y):openEnds tb p w N=some y.abs:=by
 unfold bu at h;unfold openEnds;obtain⟨s,e,h⟩:=Option.bind_eq_some_iff.mp h;rw[e];exact abn h
theorem abd {q:vQ}{loose:wk}{Xt:Shared->Bool}{α:Type}{Yf:Shared->α}{Ya:World->α}
 (h1:∀w,(bu treeTable p w N).map (λs=>openSeen q loose (importedModules p.main.body) Xt true s.abs)=some (openGood q loose))
 (h2:∀w,(bu treeTable p w N).map (λs=>Yf s.abs)=some (Ya w)):LeftO p q loose Xt Yf Ya N:=λw=>by
 obtain⟨y,e,z⟩:=Option.map_eq_some_iff.mp (h1 w);have z2:=h2 w;rw[e] at z2;rw[aat e];show some (_,_)=_;have z3:Yf y.abs=Ya w:=Option.some.inj z2;rw[z,z3]
section
variable {p q:vQ}{loose mods:wk}{Xt:Shared->Bool}{α:Type}{Yf:Shared->α}{Ya:World->α}{N:Nat}
noncomputable abbrev pV (q:vQ)(s:Fp):=(seen ((recsOf q).map (·.name)) (ownsOf q) [] {s with gens:=#[]},s.heap.bltView)
noncomputable abbrev pH (q:vQ)(loose mods:wk)(Xt:Shared->Bool)(s:Fp):Bool :=
 s.heap.keysOk (looseW q loose) ((recsOf q).map (·.name)) ((litsOf q).map (·.1)) ((clssOf q (looseW q loose)).map (·.name))&&s.heap.accountedOkI mods&&s.heap.isNs mainGlobals&&s.heap.isNs builtinsNs&&tablesOk q s.heap&&Xt s&&(if true then s.gens.size==0 else !leftWithCleanup s.gens)
noncomputable abbrev qg (q:vQ)(loose:wk)(s:Fp):=(tabsOk q s,pinSeenD q (drecsOf q) s,plainSeenE q (looseW q loose) s,plainSeenD q loose s,wideSeen q s,clsSeenW q loose s)
theorem aau
 (h1:∀w,(bu treeTable p w N).map (λs=>pV q s.abs)=some (expectedOf q,bltViewBooted))
 (h2:∀w,(bu treeTable p w N).map (λs=>pH q loose (importedModules p.main.body) Xt s.abs)=some true)
 (h3:∀w,(bu treeTable p w N).map (λs=>qg q loose s.abs)=some (true,pinGoodD (drecsOf q),plainGoodE q (looseW q loose),plainGoodD q loose,wideGood q,clsGoodW q loose))
 (h4:∀w,(bu treeTable p w N).map (λs=>Yf s.abs)=some (Ya w)):LeftO p q loose Xt Yf Ya N:=by
 refine abd (λw=>?_) h4;obtain⟨y,e,z1⟩:=Option.map_eq_some_iff.mp (h1 w);have z2:=h2 w;have z3:=h3 w;rw[e] at z2 z3 |-;have z2:pH q loose (importedModules p.main.body) Xt y.abs=true:=Option.some.inj z2;have z3:qg q loose y.abs=_:=Option.some.inj z3;show some (openSeen q loose (importedModules p.main.body) Xt true y.abs)=_;have e1:openSeen q loose (importedModules p.main.body) Xt true y.abs=((pV q y.abs).1,(pV q y.abs).2,pH q loose (importedModules p.main.body) Xt y.abs,qg q loose y.abs):=rfl;rw[e1,z1,z2,z3];rfl
theorem abC
 (h1:∀w,(bu treeTable p w N).map (λs=>(pV q s.abs,pH q loose (importedModules p.main.body) Xt s.abs))=some ((expectedOf q,bltViewBooted),true))
 (h3:∀w,(bu treeTable p w N).map (λs=>qg q loose s.abs)=some (true,pinGoodD (drecsOf q),plainGoodE q (looseW q loose),plainGoodD q loose,wideGood q,clsGoodW q loose))
 (h4:∀w,(bu treeTable p w N).map (λs=>Yf s.abs)=some (Ya w)):LeftO p q loose Xt Yf Ya N:=by
 refine aau (λw=>?_) (λw=>?_) h3 h4
 ·obtain⟨y,e,z⟩:=Option.map_eq_some_iff.mp (h1 w);rw[e];exact congrArg some (Prod.mk.inj z).1
 ·obtain⟨y,e,z⟩:=Option.map_eq_some_iff.mp (h1 w);rw[e];exact congrArg some (Prod.mk.inj z).2
end
noncomputable def aaH (K:Frag)(C f:Addr)(F6:qw)(newId:String):Bool :=
 match K.lookup C with
 |some ⟨.type "type",_,.cls cd,sl⟩ =>
  match cd.mro,sl.toList with
  | .ref D::tl,[_,_,_,_,some (.builtin made),_]=>(D==C)&&((made==newId)&&((!cd.hasDel)&&(tailIn K F6 tl&&(nsOkIn K cd.ns&&(nsIn K cd.ns "__init__"==some (some (.ref f)))))))
  |_,_=>false
 |_=>false
noncomputable def yT:List Value->List Value
 | .ref _::r=>yT r
 |l=>l
noncomputable def wK (K:Frag)(C f:Addr)(F6 VM:qw)(newId:String):Bool :=
 keepIn K (.ref C)&&((clsIn K C).any (λcd=>cd.hasDict&&(yT cd.mro==F6 || yT cd.mro==VM))&&((K.lookup C).any (λo=>o.cls == .type "type")&&((K.lookup f).any (λo=>o.cls == .type "function")&&aaH K C f F6 newId)))
end Hd
namespace L2
open PySem
/-- an own class of exceptions without an __init__ -/
noncomputable def nA (K:PySem.W.Frag)(C:Addr)(F6:qw)(newId:String):Bool :=
 ((K.lookup C).any λo=>o.cls == .type "type"&&(o.slots.size==6&&o.slots.toList[4]?==some (some (.builtin newId))))&&(PySem.W.clsIn K C).any λcd=>cd.mro.head?==some (.ref C)&&(!cd.hasDel&&(PySem.W.tailIn K F6 cd.mro.tail&&(PySem.W.nsOkIn K cd.ns&&PySem.W.nsIn K cd.ns "__init__"==some none)))
end L2
namespace K24
open PySem L2 PySem.W
open Hd (gv ga fv c4 dO b7 cQ aR iR cX jd cE dn aU gQ dy rT nO rD ia wO oF Ay iK qF iC wx xv wu)
noncomputable def aV (i:Nat):Stmt:=PySem.Challenge.pw_falsesums_k24_worths_of_sums.main.body.getD i (.Pass ⟨0,0,0,0⟩)
noncomputable def yV:List Int:=[2,3,5,7,11,13,17,19,23,29,31,37,41,43,47,53,59,61,67,71,73,79,83,89,97]
noncomputable abbrev AL:List Value:=[.type "ValueError",.type "Exception",.type "BaseException",.type "object"]
noncomputable abbrev qB:String:="ValueError.__new__"
noncomputable def g9 (K:Frag):Addr×Addr:=(tabIn K "law").getD (0,0)
noncomputable def Ff (K:Frag):Bool :=
 (cQ (gv K "isinstance") &&
 (cQ (gv K "int") &&
 (cQ (gv K "bool") &&
 (cQ (gv K "ValueError") &&
 (cQ (gv K "KeyError") &&
 (cQ (gv K "abs") &&
 (cQ (gv K "len") &&
 (cQ (gv K "tuple") &&
 (cQ (gv K "all") &&
 (cQ (gv K "zip") &&
 (cQ (gv K "list") &&
 (cQ (gv K "enumerate") &&
 (cQ (gv K "sorted") &&
 (cQ (gv K "max") &&
 (cQ (gv K "min") &&
 (cQ (gv K "range")))))))))))))))))
noncomputable def Fe (K:Frag):Bool :=
 (cQ (gv K "repr") &&
 (cQ (gv K "dict") &&
 (cQ (gv K "sum") &&
 (dO (gv K "Sum") &&
 (dO (gv K "Field") &&
 (dO (gv K "FalseError") &&
 (dO (gv K "NoDegree") &&
 (dO (gv K "NoFilling") &&
 (dO (gv K "TooMany") &&
 (dO (gv K "NoWorth") &&
 (dO (gv K "NoNumber") &&
 (dO (gv K "NoField") &&
 (dO (gv K "PRIMES") &&
 (qF (gv K "FRACTIONS") 0 &&
 (qF (gv K "MOST_PLACES") 60 &&
 (qF (gv K "MOST_DEGREE") 300))))))))))))))))
noncomputable def Fi (K:Frag):Bool :=
 (dn K (gv K "is_whole") "is_whole" &&
 (dn K (gv K "is_place") "is_place" &&
 (dn K (gv K "is_product") "is_product" &&
 (dn K (gv K "is_term") "is_term" &&
 (dn K (gv K "checked_terms") "checked_terms" &&
 (dn K (gv K "place_of_term") "place_of_term" &&
 (dn K (gv K "gathered") "gathered" &&
 (dn K (gv K "common_divisor") "common_divisor" &&
 (dn K (gv K "lowest") "lowest" &&
 (dn K (gv K "inverse") "inverse" &&
 (dn K (gv K "checked_degree") "checked_degree" &&
 (dn K (gv K "common_bottom") "common_bottom" &&
 (dn K (gv K "bottom_of") "bottom_of" &&
 (dn K (gv K "worth_of") "worth_of" &&
 (dn K (gv K "cut") "cut" &&
 (dn K (gv K "_law_room") "_law_room"))))))))))))))))
noncomputable def E8 (K:Frag):Bool :=
 (dn K (gv K "_law_take") "_law_take" &&
 (dn K (gv K "_law_lowest") "_law_lowest" &&
 (dn K (gv K "_law_make") "_law_make" &&
 (dn K (gv K "_law_plus") "_law_plus" &&
 (dn K (gv K "_law_times") "_law_times" &&
 (dn K (gv K "_law_prime") "_law_prime" &&
 (dn K (gv K "_law_number") "_law_number" &&
 (dn K (gv K "_law_product") "_law_product" &&
 (dn K (gv K "_law_terms") "_law_terms" &&
 (dn K (gv K "_law_gather") "_law_gather" &&
 (dn K (gv K "_law_products") "_law_products" &&
 (dn K (gv K "_law_kind") "_law_kind" &&
 (dn K (gv K "_law_lacking") "_law_lacking" &&
 (dn K (gv K "_law_sum_right") "_law_sum_right" &&
 (dn K (gv K "_law_cut_right") "_law_cut_right" &&
 (dn K (fv K "Sum" "terms") "Sum.terms"))))))))))))))))
noncomputable def E9 (K:Frag):Bool :=
 (isFn K (.ref (c4 (fv K "Sum" "terms"))) &&
 (dn K (fv K "Sum" "field") "Sum.field" &&
 (isFn K (.ref (c4 (fv K "Sum" "field"))) &&
 (dn K (fv K "Field" "plus") "Field.plus" &&
 (isFn K (.ref (c4 (fv K "Field" "plus"))) &&
 (dn K (fv K "Field" "settled") "Field.settled" &&
 (isFn K (.ref (c4 (fv K "Field" "settled"))) &&
 (dn K (fv K "Field" "is_number") "Field.is_number" &&
 (isFn K (.ref (c4 (fv K "Field" "is_number"))) &&
 (dn K (fv K "Field" "quotient") "Field.quotient" &&
 (isFn K (.ref (c4 (fv K "Field" "quotient"))) &&
 (dn K (fv K "NoWorth" "__init__") "NoWorth.__init__" &&
 (isFn K (.ref (c4 (fv K "NoWorth" "__init__"))) &&
 (dn K (fv K "Sum" "__init__") "Sum.__init__" &&
 (isFn K (.ref (c4 (fv K "Sum" "__init__"))) &&
 (rT K (fv K "Sum" "__init__")))))))))))))))))
noncomputable def Fj (K:Frag):Bool :=
 (rD K (nO K (fv K "Sum" "__init__")) (wO) &&
 (dn K (fv K "Field" "__init__") "Field.__init__" &&
 (isFn K (.ref (c4 (fv K "Field" "__init__"))) &&
 (rT K (fv K "Field" "__init__") &&
 (rD K (nO K (fv K "Field" "__init__")) (Ay 0) &&
 (dn K (fv K "Field" "made") "Field.made" &&
 (isFn K (.ref (c4 (fv K "Field" "made"))) &&
 (rT K (fv K "Field" "made") &&
 (rD K (nO K (fv K "Field" "made")) (Ay 1) &&
 (plainGet K (ga K "Field") Str.empty &&
 (hasDictIn K (ga K "Field") &&
 (plainOver K (ga K "Field") &&
 (iR (fv K "Field" "__setattr__") "object.__setattr__" &&
 (cQ (fv K "Field" "its_prime") &&
 (((clsIn K (ga K "Field")).isSome&&typeIn K (.ref (ga K "Field"))==some (.type "type")) &&
 (iR (fv K "Field" "__class__") "object.__class__"))))))))))))))))
noncomputable def E6 (K:Frag):Bool :=
 (iR (specialIn K (.builtin "object.__class__") "__get__") "getset_descriptor.__get__" &&
 (jd (takesIn K (.builtin "object.__class__")) true &&
 (jd (mroIn K (ga K "Field") (.type "object")) true &&
 (plainGet K (ga K "Sum") Str.empty &&
 (hasDictIn K (ga K "Sum") &&
 (plainOver K (ga K "Sum") &&
 (iR (fv K "Sum" "__setattr__") "object.__setattr__" &&
 (cQ (fv K "Sum" "its_field") &&
 (cQ (fv K "Sum" "its_terms") &&
 (wx K (ga K "PRIMES") yV &&
 ((clsIn K (ga K "NoDegree")).isSome &&
 (iR (fv K "NoDegree" "__getattribute__") "BaseException.__getattribute__" &&
 (cQ (fv K "NoDegree" "__getattr__") &&
 (iR (fv K "NoDegree" "__class__") "object.__class__" &&
 (jd (mroIn K (ga K "NoDegree") (.type "object")) true &&
 (jd (mroIn K (ga K "NoDegree") (.type "BaseException")) true))))))))))))))))
noncomputable def E4 (K:Frag):Bool :=
 (jd (exmOne K (.ref (ga K "NoDegree")) (.ref (ga K "FalseError"))) true &&
 (jd (kitOne K (.ref (ga K "NoDegree")) (.ref (ga K "NoDegree"))) true &&
 (jd (kitOne K (.ref (ga K "NoDegree")) (.ref (ga K "NoFilling"))) false &&
 (jd (kitOne K (.ref (ga K "NoDegree")) (.ref (ga K "TooMany"))) false &&
 (jd (kitOne K (.ref (ga K "NoDegree")) (.type "ValueError")) true &&
 (nA K (ga K "NoField") AL qB &&
 (nA K (ga K "NoNumber") AL qB &&
 (nA K (ga K "NoDegree") AL qB &&
 (xv K &&
 (Hd.wK K (ga K "NoWorth") (c4 (fv K "NoWorth" "__init__")) [.type "KeyError",.type "LookupError",.type "Exception",.type "BaseException",.type "object"] AL "LookupError.__new__" &&
 ((clsIn K (ga K "NoWorth")).isSome &&
 (iR (fv K "NoWorth" "__getattribute__") "BaseException.__getattribute__" &&
 (cQ (fv K "NoWorth" "__getattr__") &&
 (iR (fv K "NoWorth" "__class__") "object.__class__" &&
 (jd (mroIn K (ga K "NoWorth") (.type "object")) true &&
 (jd (mroIn K (ga K "NoWorth") (.type "BaseException")) true))))))))))))))))
noncomputable def EF (K:Frag):Bool :=
 (iR (fv K "NoWorth" "__setattr__") "object.__setattr__" &&
 (cQ (fv K "NoWorth" "product") &&
 (jd (exmOne K (.ref (ga K "NoWorth")) (.ref (ga K "NoWorth"))) true &&
 (jd (kitOne K (.ref (ga K "NoWorth")) (.ref (ga K "FalseError"))) false &&
 (jd (kitOne K (.ref (ga K "NoWorth")) (.type "KeyError")) true &&
 (dn K (gv K "law") "law" &&
 (wu K (gv K "law") (g9 K).1 &&
 ((tabIn K "law").isSome &&
 ((K.lookup (g9 K).2).isNone &&
 (makesIn K (ga K "Sum") &&
 (keepIn K (.ref (ga K "Sum")) &&
 (makesIn K (ga K "Field") &&
 (keepIn K (.ref (ga K "Field")))))))))))))))
noncomputable def kj (K:Frag):Bool:=Ff K&&(Fe K&&(Fi K&&(E8 K&&(E9 K&&(Fj K&&(E6 K&&(E4 K&&(EF K))))))))
noncomputable def rO (K:Frag):Bool×List (Option Hd.si):=(kj K,[aU K (gv K "is_whole"),aU K (gv K "is_place"),aU K (gv K "is_product"),aU K (gv K "is_term"),aU K (gv K "checked_terms"),aU K (gv K "place_of_term"),aU K (gv K "gathered"),aU K (gv K "common_divisor"),aU K (gv K "lowest"),aU K (gv K "inverse"),aU K (gv K "checked_degree"),aU K (gv K "common_bottom"),aU K (gv K "bottom_of"),aU K (gv K "worth_of"),aU K (gv K "cut"),aU K (gv K "_law_room"),aU K (gv K "_law_take"),aU K (gv K "_law_lowest"),aU K (gv K "_law_make"),aU K (gv K "_law_plus"),aU K (gv K "_law_times"),aU K (gv K "_law_prime"),aU K (gv K "_law_number"),aU K (gv K "_law_product"),aU K (gv K "_law_terms"),aU K (gv K "_law_gather"),aU K (gv K "_law_products"),aU K (gv K "_law_kind"),aU K (gv K "_law_lacking"),aU K (gv K "_law_sum_right"),aU K (gv K "_law_cut_right"),aU K (fv K "Sum" "terms"),aU K (fv K "Sum" "field"),aU K (fv K "Field" "plus"),aU K (fv K "Field" "settled"),aU K (fv K "Field" "is_number"),aU K (fv K "Field" "quotient"),aU K (fv K "NoWorth" "__init__"),gQ K (fv K "Sum" "__init__"),gQ K (fv K "Field" "__init__"),gQ K (fv K "Field" "made"),aU K (gv K "law")])
noncomputable def dueK:Bool×List (Option Hd.si):=(true,[dy "is_whole" "is_whole" ((aV 13)),dy "is_place" "is_place" ((aV 14)),dy "is_product" "is_product" ((aV 15)),dy "is_term" "is_term" ((aV 38)),dy "checked_terms" "checked_terms" ((aV 39)),dy "place_of_term" "place_of_term" ((aV 40)),dy "gathered" "gathered" ((aV 41)),dy "common_divisor" "common_divisor" ((aV 23)),dy "lowest" "lowest" ((aV 24)),dy "inverse" "inverse" ((aV 26)),dy "checked_degree" "checked_degree" ((aV 19)),dy "common_bottom" "common_bottom" ((aV 25)),dy "bottom_of" "bottom_of" ((aV 29)),dy "worth_of" "worth_of" ((aV 46)),dy "cut" "cut" ((aV 47)),dy "_law_room" "_law_room" ((aV 49)),dy "_law_take" "_law_take" ((aV 50)),dy "_law_lowest" "_law_lowest" ((aV 51)),dy "_law_make" "_law_make" ((aV 52)),dy "_law_plus" "_law_plus" ((aV 53)),dy "_law_times" "_law_times" ((aV 54)),dy "_law_prime" "_law_prime" ((aV 55)),dy "_law_number" "_law_number" ((aV 56)),dy "_law_product" "_law_product" ((aV 57)),dy "_law_terms" "_law_terms" ((aV 58)),dy "_law_gather" "_law_gather" ((aV 59)),dy "_law_products" "_law_products" ((aV 60)),dy "_law_kind" "_law_kind" (aV 61),dy "_law_lacking" "_law_lacking" (aV 62),dy "_law_sum_right" "_law_sum_right" ((aV 63)),dy "_law_cut_right" "_law_cut_right" ((aV 64)),dy "terms" "Sum.terms" (br (aV 43) 6),dy "field" "Sum.field" (br (aV 43) 5),dy "plus" "Field.plus" (br (aV 27) 6),dy "settled" "Field.settled" (br (aV 27) 10),dy "is_number" "Field.is_number" (br (aV 27) 11),dy "quotient" "Field.quotient" (br (aV 27) 5),dy "__init__" "NoWorth.__init__" (br (aV 10) 0),dy "__init__" "Sum.__init__" (br (aV 43) 0),dy "__init__" "Field.__init__" (br (aV 27) 0),dy "made" "Field.made" (br (aV 27) 4),dy "law" "law" ((aV 65))])
noncomputable def sk:List Addr:=[1,3,30,31,43,44,55,56,80,91,92,104,138,139,141,142,151,152,158,159,163,164,175,176,177,183,184,190,191,197,198,204,205,213,219,220,242,248,249,255,256,262,263,290,291,297,298,300,301,309,310,342,343,349,350,356,357,361,362,375,381,382,416,417,423,424,485,486,501,502,506,507,513,514,520,521,527,528,532,533,539,540,546,547,553,554,560,561,565,566,572,573,577,578,582,583,589,590,596,597,601,602,606,607,613,614]
noncomputable def hX:Program:={PySem.Challenge.pw_falsesums_k24_worths_of_sums with main:={PySem.Challenge.pw_falsesums_k24_worths_of_sums.main with body:=[aV 0,aV 2,aV 3,aV 4,aV 5,aV 6,aV 7,aV 8,aV 9,aV 10,aV 12,aV 13,aV 14,aV 15,aV 16,aV 18,aV 19,aV 21,aV 22,aV 23,aV 24,aV 25,aV 26,aV 27,aV 29,aV 31,aV 32,aV 33,aV 34,aV 35,aV 36,aV 38,aV 39,aV 40,aV 41,aV 42,aV 43,aV 44,aV 46,aV 47,aV 49,aV 50,aV 51,aV 52,aV 53,aV 54,aV 55,aV 56,aV 57,aV 58,aV 59,aV 60,aV 61,aV 62,aV 63,aV 64,aV 65]} }
noncomputable def lv:List (PySem.Str×WData):=[("STEP",.int 10000000000000000000000000000000000000000000000000000000000000000)]
end K24
section
open PySem PySem.W PyProof.Rows
set_option maxRecDepth 100000 in
set_option maxHeartbeats 0 in
theorem K24.ran1:∀w,(Hd.bu treeTable PySem.Challenge.rw_falsesums_k24_worths_of_sums.row.prog w 9282).map (λs=>(Hd.pV K24.hX s.abs,Hd.pH K24.hX ["Field","STEP"] (importedModules PySem.Challenge.rw_falsesums_k24_worths_of_sums.row.prog.main.body) (λs=>xlAt K24.hX K24.lv s&&recOk (PySem.Challenge.rw_falsesums_k24_worths_of_sums.row.toRowW).records s) s.abs))=some ((PyProof.Rows.expectedOf K24.hX,bltViewBooted),true):=by
 intro w;kernel_rfl
set_option maxRecDepth 100000 in
set_option maxHeartbeats 0 in
theorem K24.ran3:∀w,(Hd.bu treeTable PySem.Challenge.rw_falsesums_k24_worths_of_sums.row.prog w 9282).map (λs=>Hd.qg K24.hX ["Field","STEP"] s.abs)=some (true,pinGoodD (drecsOf K24.hX),plainGoodE K24.hX (looseW K24.hX ["Field","STEP"]),plainGoodD K24.hX ["Field","STEP"],wideGood K24.hX,clsGoodW K24.hX ["Field","STEP"]):=by
 intro w;kernel_rfl
set_option maxRecDepth 100000 in
set_option maxHeartbeats 0 in
theorem K24.ran4:∀w,(Hd.bu treeTable PySem.Challenge.rw_falsesums_k24_worths_of_sums.row.prog w 9282).map (λs=>K24.rO (Hd.ya K24.sk s.abs.heap))=some K24.dueK:=by
 intro w;kernel_rfl
end
namespace L2
open PySem PySem.Spec PyProof.Rows
noncomputable abbrev Key:=Sum Int Str
noncomputable def m7:Key->Value->Bool
 | .inl k,v=>Value.isInt k v
 | .inr x,v=>Value.isStrOf x v
noncomputable def aa2 (w:World):Key->Int
 | .inl k=>hashInt k
 | .inr x=>hashStr w x
theorem bF:∀{k:Key}{v:Value},m7 k v=true->(∃i t,k=Sum.inl i/\v=Value.int i t)\/(∃x t,k=Sum.inr x/\v=Value.str x t)
 | .inl i,v,h=>by
   obtain⟨t,e⟩:=Value.isInt_shape (k:=i) (v:=v) h;exact .inl ⟨i,t,rfl,e⟩
 | .inr x,v,h=>by
   obtain⟨t,e⟩:=Value.isStrOf_shape (x:=x) (v:=v) h;exact .inr ⟨x,t,rfl,e⟩
theorem aas (i:Int)(t:Tok):m7 (.inl i) (.int i t)=true:=by simp[m7,Value.isInt]
theorem Fun (x:Str)(t:Tok):m7 (.inr x) (.str x t)=true:=by simp[m7,Value.isStrOf]
theorem abv (a b:Int):decide ((Sum.inl a:Key)=Sum.inl b)=(a==b):=by
 by_cases e:a=b
 ·subst e;simp
 ·have h:¬(Sum.inl a:Key)=Sum.inl b:=λq=>e (Sum.inl.inj q);rw[decide_eq_false h];exact(beq_eq_false_iff_ne.mpr e).symm
theorem abB (a b:Str):decide ((Sum.inr a:Key)=Sum.inr b)=decide (a=b):=by
 by_cases e:a=b
 ·subst e;simp
 ·have h:¬(Sum.inr a:Key)=Sum.inr b:=λq=>e (Sum.inr.inj q);rw[decide_eq_false h,decide_eq_false e]
theorem abI (a:Int)(b:Str):decide ((Sum.inl a:Key)=Sum.inr b)=false:=decide_eq_false (λq=>nomatch q)
theorem sz2 (a:Str)(b:Int):decide ((Sum.inr a:Key)=Sum.inl b)=false:=decide_eq_false (λq=>nomatch q)
noncomputable def aQ (prog:vQ)(w:World):PySem.KeyKind prog w Key where
 is:=m7
 hash:=aa2 w
 inj:=λv a b ha hb=>by
  rcases bF ha with⟨i,t,rfl,rfl⟩|⟨x,t,rfl,rfl⟩
  ·rcases bF hb with⟨j,u,rfl,e⟩|⟨y,u,rfl,e⟩
   ·injection e with e1 _;rw[e1]
   ·exact nomatch e
  ·rcases bF hb with⟨j,u,rfl,e⟩|⟨y,u,rfl,e⟩
   ·exact nomatch e
   ·injection e with e1 _;rw[e1]
 byValue:=λk v h=>by
  rcases bF h with⟨i,t,rfl,rfl⟩|⟨x,t,rfl,rfl⟩ <;> rfl
 pyHash:=λhv h=>by
  rcases bF hv with⟨i,t,rfl,rfl⟩|⟨x,t,rfl,rfl⟩
  ·exact wpAny_pyHash_int h
  ·exact wpAny_pyHash_str h
 eqBool:=λhu hv h=>by
  rcases bF hu with⟨i,t,rfl,rfl⟩|⟨x,t,rfl,rfl⟩
  ·rcases bF hv with⟨j,u,rfl,rfl⟩|⟨y,u,rfl,rfl⟩
   ·rw[abv] at h;exact wpAny_eqBool_int h
   ·rw[abI] at h;exact SeqAt.EqAt.int_str i t y u _ _ _ _ h
  ·rcases bF hv with⟨j,u,rfl,rfl⟩|⟨y,u,rfl,rfl⟩
   ·rw[sz2] at h;exact SeqAt.EqAt.str_int x t j u _ _ _ _ h
   ·rw[abB] at h;exact wpAny_eqBool_str h
 «strs»:=λk x t v h=>by
  rcases bF h with⟨i,u,rfl,e⟩|⟨y,u,rfl,e⟩
  ·exact nomatch e
  ·injection e with e1 _
   subst e1
   cases v <;> rfl
theorem abN (prog:vQ)(w:World)(i:Int)(t:Tok):(aQ prog w).is (.inl i) (.int i t)=true:=aas i t
theorem aaK (prog:vQ)(w:World)(x:Str)(t:Tok):(aQ prog w).is (.inr x) (.str x t)=true:=Fun x t
inductive V where
 |non|bl (b:Bool)|int (i:Int)|str (x:Str)|byt (b:Array UInt8)|flt (b:UInt64)|ref (a:Addr)|ty (n:String)
 deriving DecidableEq
noncomputable def aC:V->Value->Prop
 | .non,u=>u=Value.none
 | .bl b,u=>u=Value.bool b
 | .int i,u=>∃t,u=Value.int i t
 | .str x,u=>∃t,u=Value.str x t
 | .byt b,u=>∃t,u=Value.bytes b t
 | .flt b,u=>∃t,u=Value.float b t
 | .ref a,u=>u=Value.ref a
 | .ty n,u=>u=Value.type n
noncomputable abbrev aG:List V->List Value->Prop:=Paired aC
variable {us:qw}
theorem aG.length {xs:List V}(r:aG xs us):xs.length=us.length:=Paired.length r
theorem aG.get:∀{xs:List V}{us:qw}{i:Nat}{x:V},aG xs us->xs[i]?=some x->∃u,us[i]?=some u/\aC x u
 |_,_,_,_,.nil,e=>by simp at e
 |_,_,0,_,.cons r _,e=>by simp at e;subst e;exact⟨_,rfl,r⟩
 |_,_,i+1,x,.cons _ t,e=>by
  obtain⟨u,h1,h2⟩:=aG.get (i:=i) (x:=x) t (by simpa using e);exact⟨u,by simpa using h1,h2⟩
variable {u:Value}
theorem aG.set {x:V}(r:aC x u):∀{xs:List V}{us:qw}(i:Nat),aG xs us->aG (xs.set i x) (us.set i u)
 |_,_,_,.nil=>.nil
 |_,_,0,.cons _ t=>.cons r t
 |_,_,i+1,.cons q t=>.cons q (aG.set r i t)
theorem aG.append:∀{xs ys:List V}{us ws:qw},aG xs us->aG ys ws->aG (xs++ys) (us++ws)
 |_,_,_,_,.nil,s=>s
 |_,_,_,_,.cons r t,s=>.cons r (aG.append t s)
theorem aG.take:∀{xs:List V}{us:qw}(n:Nat),aG xs us->aG (xs.take n) (us.take n)
 |_,_,0,_=>.nil
 |_,_,_+1,.nil=>.nil
 |_,_,n+1,.cons r t=>.cons r (aG.take n t)
theorem aG.drop:∀{xs:List V}{us:qw}(n:Nat),aG xs us->aG (xs.drop n) (us.drop n)
 |_,_,0,r=>r
 |_,_,_+1,.nil=>.nil
 |_,_,n+1,.cons _ t=>aG.drop n t
noncomputable def dq:Option V->Option Value->Prop
 |some v,some u=>aC v u
 |none,none=>True
 |_,_=>False
noncomputable def KV {κ:Type}:List (κ×V)->List (κ×Value)->Prop:=Paired λ(p:κ×V)(q:κ×Value)=>p.1=q.1/\aC p.2 q.2
noncomputable def kV:Key->V
 | .inl i=>.int i
 | .inr x=>.str x
inductive HO where
 /-- a list -/
 |lst (xs:List V)
 /-- a tuple (never changes) -/
 |tup (xs:List V)
 /-- a dict L4 keys are ints and texts;one L4 keys are tuples of ints and texts (JF empty one is both) -/
 |dK (FF:List (Key×V))|dT (FF:List (List Key×V))
 /-- a set of ints: its members,its size -/
 |set (S:Int->Bool)(n:Nat)
 /-- an instance of JF class at C,its dict at dx,its attributes -/
 |ins (C dx:Addr)(fs:List (Str×V))
 /-- JF dict of JF instance at x -/
 |own (x:Addr)
 /-- JF dict of an exception -/
 |xd (fs:List (Str×V))
 /-- a bound method,f of x -/
 |met (f x:Addr)
 /-- a range object lo,lo+1,.. below hi -/
 |rng (lo hi:Int)
 /-- a L6 VN is known to JF object (JF PQ;a dict while a loop walks it): read,never written while it is so -/
 |frz (o:Obj)(u:HO)
 /-- a code L7 table -/
 |tbl (ps:Cm)
 /-- any other L6,by VO is true of its one object (a def of Tw own: VP a S n:=HO.ext λh=>..) -/
 |ext (φ:Heap->Prop)
noncomputable abbrev Hp:=Addr->Option HO
noncomputable def upd (H:Hp)(a:Addr)(o:HO):Hp:=λb=>if b=a then some o else H b
variable {H:Hp}{a:Addr}{o:HO}
theorem ae :upd H a o a=some o:=by unfold upd;rw[if_pos rfl]
variable {b:Addr}
theorem ai (h:b≠a):upd H a o b=H b:=by unfold upd;rw[if_neg h]
theorem sv {u:HO}:upd (upd H a o) a u=upd H a u:=by
 funext b;unfold upd;split <;> rfl
theorem i7 {u:HO}(h:H a=some o)(h':H b=some u)(d:o≠u):a≠b:=by
 intro e;subst e;rw[h] at h';exact d (Option.some.inj h')
theorem av (h:H a=some o)(h':H b=none):a≠b:=by
 intro e;subst e;rw[h] at h';cases h'
section
variable (P:vQ)(w:World)
noncomputable def ba (H:Hp)(h:Heap)(a:Addr):HO->Prop
 | .lst xs=>xs.length<=sizeLine/\∃(its:qw)(n:Nat),aG xs its/\h.get? a=some {cls:=.type "list",data:=.seq its.toArray n}
 | .tup xs=>xs.length<=sizeLine/\∃its:List Value,aG xs its/\IsTup h a its.toArray
 | .dK FF=>FF.length<=sizeLine/\(a==sysModules)=false/\∃vs,KV FF vs/\h.DictOf (aQ P w) a vs
 | .dT FF=>FF.length<=sizeLine/\(a==sysModules)=false/\∃xs:List (List Key×Addr×Value),
  Paired (λ(p:List Key×V)(q:List Key×Addr×Value)=>p.1=q.1/\H q.2.1=some (.tup (p.1.map kV))/\aC p.2 q.2.2) FF xs /\
  ∃o es ep,h.get? a=some o/\o.ExactDict/\o.data=.dict es ep/\es.toList=xs.map (entryOfKey (tupleKind (aQ P w)))/\(xs.map (·.1)).Nodup
 | .set S n=>h.SetOf (intKind P w) a S n
 | .ins C dx fs=>H dx=some (.own a)/\fs.length<=1000/\dx≠a/\h.get? a=some (PySem.W.instObj C dx) /\
  ∃mA,h.Ns1 dx mA/\(∀f,dq (fs.lookup f) (mA f))/\PySem.Within mA (fs.map (·.1))
 | .own _=>∃o,h.get? a=some o
 | .xd fs=>∃mA,h.Ns1 a mA/\∀f,dq (fs.lookup f) (mA f)
 | .rng lo hi=>∃t u v,h.get? a=some {cls:=.type "range",data:=.fields #[.int lo t,.int hi u,.int 1 v]}
 | .frz o u=>h.get? a=some o/\ba H h a u
 | .tbl ps=>h.get? a=some {cls:=.none,data:=.fields ps}
 | .met f x=>h.get? a=some (PySem.W.methodObj (.ref f) (.ref x))
 | .ext φ=>φ h/\(∃o,h.get? a=some o)/\∀h1 h2:Heap,φ h1->(∀o,h1.get? a=some o->h2.get? a=some o)->φ h2
noncomputable def dM (H:Hp)(h:Heap):Prop:=∀a o,H a=some o->ba P w H h a o
end
section
variable {P:vQ}{w:World}{H H':Hp}{h h':Heap}{a:Addr}{o:HO}
theorem ba.lt (x:ba P w H h a o):a<h.objs.size:=by
 cases o with
 |lst xs=>obtain⟨_,_,_,_,e⟩:=x;exact Heap.lt_size e
 |tup xs=>obtain⟨_,_,_,p⟩:=x;exact p.lt
 |dK FF=>obtain⟨_,_,_,_,o,_,_,e,_⟩:=x;exact Heap.lt_size e
 |dT FF=>obtain⟨_,_,_,_,o,_,_,e,_⟩:=x;exact Heap.lt_size e
 |set S n=>obtain⟨o,_,_,_,e,_⟩:=x;exact Heap.lt_size e
 |ins C dx fs=>obtain⟨_,_,_,e,_⟩:=x;exact Heap.lt_size e
 |own y=>obtain⟨_,e⟩:=x;exact Heap.lt_size e
 |xd fs=>obtain⟨_,⟨_,_,_,e,_⟩,_⟩:=x;exact Heap.lt_size e
 |rng lo hi=>obtain⟨_,_,_,e⟩:=x;exact Heap.lt_size e
 |frz ob u=>obtain⟨e,_⟩:=x;exact Heap.lt_size e
 |tbl ps=>exact Heap.lt_size (show h.get? a=some _ from x)
 |met f y=>exact Heap.lt_size (show h.get? a=some _ from x)
 |ext φ=>obtain⟨_,⟨_,e⟩,_⟩:=x;exact Heap.lt_size e
theorem Paired.aaW {α β:Type}{F G:α->β->Prop}:∀{l₁:List α}{l₂:List β},Paired F l₁ l₂->(∀a b,F a b->G a b)->Paired G l₁ l₂
 |_,_,.nil,_=>.nil
 |_,_,.cons r t,f=>.cons (f _ _ r) (Paired.aaW t f)
theorem ba.aaY (x:ba P w H h a o)(k:∀b u,(b=a\/H b=some (.own a))->h.get? b=some u->h'.get? b=some u)
 (ho:∀b,H b=some (.own a)->H' b=some (.own a))(ht:∀b xs,H b=some (.tup xs)->H' b=some (.tup xs)):ba P w H' h' a o:=by
 induction o with
 |lst xs=>obtain⟨z,its,n,r,e⟩:=x;exact⟨z,its,n,r,k _ _ (.inl rfl) e⟩
 |tup xs=>obtain⟨z,its,r,ob,e,c⟩:=x;exact⟨z,its,r,ob,k _ _ (.inl rfl) e,c⟩
 |dK FF=>obtain⟨z,y,vs,r,ob,es,ep,e,c⟩:=x;exact⟨z,y,vs,r,ob,es,ep,k _ _ (.inl rfl) e,c⟩
 |dT FF =>
  obtain⟨z,y,xs,r,ob,es,ep,e,c⟩:=x;exact⟨z,y,xs,Paired.aaW r λp q z=>⟨z.1,ht _ _ z.2.1,z.2.2⟩,ob,es,ep,k _ _ (.inl rfl) e,c⟩
 |set S n=>obtain⟨ob,es,ep,t,e,c⟩:=x;exact⟨ob,es,ep,t,k _ _ (.inl rfl) e,c⟩
 |ins C dx fs =>
  obtain⟨d,z,ne,e,mA,⟨od,es,ep,e2,c⟩,r⟩:=x;exact⟨ho _ d,z,ne,k _ _ (.inl rfl) e,mA,⟨od,es,ep,k _ _ (.inr d) e2,c⟩,r⟩
 |own y=>obtain⟨ob,e⟩:=x;exact⟨ob,k _ _ (.inl rfl) e⟩
 |xd fs=>obtain⟨mA,⟨od,es,ep,e,c⟩,r⟩:=x;exact⟨mA,⟨od,es,ep,k _ _ (.inl rfl) e,c⟩,r⟩
 |rng lo hi=>obtain⟨t,u,v,e⟩:=x;exact⟨t,u,v,k _ _ (.inl rfl) e⟩
 |frz ob u ih=>obtain⟨e,q⟩:=x;exact⟨k _ _ (.inl rfl) e,ih q⟩
 |tbl ps =>
  have e:h.get? a=some {cls:=.none,data:=.fields ps}:=x;show h'.get? a=some {cls:=.none,data:=.fields ps};exact k a _ (.inl rfl) e
 |met f y =>
  have e:h.get? a=some (PySem.W.methodObj (.ref f) (.ref y)):=x;show h'.get? a=some (PySem.W.methodObj (.ref f) (.ref y));exact k a _ (.inl rfl) e
 |ext φ=>obtain⟨p,⟨o,e⟩,st⟩:=x;exact⟨st _ _ p λo q=>k _ _ (.inl rfl) q,⟨o,k _ _ (.inl rfl) e⟩,st⟩
theorem dM.lt (x:dM P w H h)(e:H a=some o):a<h.objs.size:=(x a o e).lt
theorem dM.fresh (x:dM P w H h)(e:h.objs.size<=a):H a=none:=by
 cases q:H a with
 |none=>rfl
 |some u=>exact absurd (Nat.lt_of_lt_of_le (x.lt q) e) (Nat.lt_irrefl _)
theorem dM.kept (x:dM P w H h)(k:∀b u,h.get? b=some u->h'.get? b=some u):dM P w H h':=λa o e =>
 (x a o e).aaY (λb u _ q=>k b u q) (λ_ q=>q) λ_ _ q=>q
theorem dM.laid (x:dM P w H h)(k:∀b u,h.get? b=some u->h'.get? b=some u)(hp:h.objs.size<=a)(new:ba P w (upd H a o) h' a o):dM P w (upd H a o) h':=λb u e=>by
 have hn:=x.fresh hp
 by_cases hb:b=a
 ·subst hb;rw[ae] at e;cases e;exact new
 ·rw[ai hb] at e
  exact(x b u e).aaY (λc v _ q=>k c v q) (λc q=>by rw[ai (av q hn)];exact q) λc xs q=>by rw[ai (av q hn)];exact q
end
noncomputable def Rd (H:Hp)(a:Addr)(u:HO):Prop:=H a=some u\/∃o,H a=some (.frz o u)
variable {P:vQ}{w:World}{h:Heap}
theorem Rd.ok {u:HO}(r:Rd H a u)(x:dM P w H h):ba P w H h a u:=by
 rcases r with r|⟨o,r⟩
 ·exact x a u r
 ·obtain⟨_,q⟩:=x a _ r;exact q
noncomputable def DG:Option HO->Prop
 |some (.lst _)=>True
 |some (.dK _)=>True
 |some (.dT _)=>True
 |some (.set _ _)=>True
 |some (.ins _ _ _)=>True
 |some (.ext _)=>True
 |_=>False
section
variable {P:vQ}{w:World}{H:Hp}{h h':Heap}{x e:Addr}{o':HO}
theorem dM.write (ok:dM P w H h)(mu:DG (H x))(he:e=x\/H e=some (.own x))(k:∀b u,b≠e->h.get? b=some u->h'.get? b=some u)(LF:∃u,h'.get? e=some u)
 (new:ba P w (upd H x o') h' x o'):dM P w (upd H x o') h':=λb u q=>by
 have L8:∀c y,H c=some (.own y)->c≠x:=λc y r z=>by subst z;rw[r] at mu;exact mu
 have PR:∀c xs,H c=some (.tup xs)->c≠x:=λc xs r z=>by subst z;rw[r] at mu;exact mu
 by_cases hb:b=x
 ·subst hb;rw[ae] at q;cases q;exact new
 ·rw[ai hb] at q
  by_cases KC:b=e
  ·have q':H b=some (.own x):=by
    rcases he with z|z
    ·exact absurd (KC.trans z) hb
    ·rw[KC];exact z
   rw[q] at q';cases q';obtain⟨v,hv⟩:=LF;exact⟨v,by rw[KC];exact hv⟩
  ·refine(ok b u q).aaY (λc v hc r=>k c v ?_ r) (λc r=>by rw[ai (L8 c b r)];exact r) λc xs r=>by rw[ai (PR c xs r)];exact r
   rcases hc with rfl|hc
   ·exact KC
   ·rintro rfl
    rcases he with z|z
    ·exact L8 c b hc z
    ·rw[hc] at z;cases z;exact hb rfl
end
structure Un (fs ex:List Addr)(H H':Hp)(h h':Heap):Prop where
 keep:∀b o,h.get? b=some o->H b=none->b∉fs->b∉ex->h'.get? b=some o
 slot:∀b o,h.get? b=some o->H b=none->b∈fs->b∉ex->∃sl,h'.get? b=some {o with slots:=sl}
 free:∀b o,h.get? b=some o->H b=none->b∉ex->H' b=none
 there:∀b o,h.get? b=some o->b∉ex->∃o',h'.get? b=some o'
 aaC:∀b xs,H b=some (.tup xs)->H' b=some (.tup xs)
 aaB:∀b o u,H b=some (.frz o u)->H' b=some (.frz o u)
 aaI:∀b ps,H b=some (.tbl ps)->∃more,H' b=some (.tbl (ps++more))
section
variable {fs VQ ex ex':List Addr}{H H1 H2:Hp}{h h1 h2 h':Heap}{a x e:Addr}{o:HO}
theorem Un.any (u:Un fs ex H H1 h h1){ob:Obj}(q:h.get? b=some ob)(n:H b=none)(hx:b∉ex):∃sl,h1.get? b=some {ob with slots:=sl}:=by
 by_cases hb:b∈fs
 ·exact u.slot b ob q n hb hx
 ·exact⟨ob.slots,u.keep b ob q n hb hx⟩
theorem Un.kept (k:∀b u,h.get? b=some u->h'.get? b=some u):Un fs ex H H h h' :=
 ⟨λb ob q _ _ _=>k b ob q,λb ob q _ _ _=>⟨ob.slots,k b ob q⟩,λ_ _ _ n _=>n,λb ob q _=>⟨ob,k b ob q⟩,λ_ _ q=>q,λ_ _ _ q=>q,λ_ ps q=>⟨#[],by rw[q];simp⟩⟩
theorem Un.refl:Un fs ex H H h h:=Un.kept λ_ _ q=>q
theorem Un.laid (k:∀b u,h.get? b=some u->h'.get? b=some u)(hp:h.objs.size<=a)(hn:H a=none):Un fs ex H (upd H a o) h h' where
 keep:=λb u q _ _ _=>k b u q
 slot:=λb u q _ _ _=>⟨u.slots,k b u q⟩
 free:=λb u q n _=>by rw[ai (Nat.ne_of_lt (Nat.lt_of_lt_of_le (Heap.lt_size q) hp))];exact n
 there:=λb u q _=>⟨u,k b u q⟩
 aaC:=λb xs q=>by rw[ai (av q hn)];exact q
 aaB:=λb u xs q=>by rw[ai (av q hn)];exact q
 aaI:=λb ps q=>⟨#[],by rw[ai (av q hn),q];simp⟩
theorem Un.write (mu:DG (H x))(he:e=x\/H e=some (.own x))(k:∀b u,b≠e->h.get? b=some u->h'.get? b=some u)(LF:∃u,h'.get? e=some u):Un fs ex H (upd H x o) h h':=by
 have hx:∀b,H b=none->b≠x:=λb n z=>by subst z;rw[n] at mu;exact mu
 have hb:∀b,H b=none->b≠e:=λb n z=>by
  subst z
  rcases he with r|r
  ·exact hx b n r
  ·rw[n] at r;cases r
 have hm:∀b u,H b=some u->¬DG (some u)->b≠x:=λb u q nm z=>by subst z;rw[q] at mu;exact nm mu
 refine⟨λb u q n _ _=>k b u (hb b n) q,λb u q n _ _=>⟨u.slots,k b u (hb b n) q⟩,λb u q n _=>by rw[ai (hx b n)];exact n,λb u q _=>?_,
  λb xs q=>by rw[ai (hm b _ q λz=>z)];exact q,λb u xs q=>by rw[ai (hm b _ q λz=>z)];exact q,λb ps q=>⟨#[],by rw[ai (hm b _ q λz=>z),q];simp⟩⟩
 by_cases KC:b=e
 ·subst KC;exact LF
 ·exact⟨u,k b u KC q⟩
end
noncomputable def DY (h:Heap)(H:Hp):List Addr:=(List.range h.objs.size).filter λa=>(H a).isSome
noncomputable def lK (h:Heap)(H:Hp):Heap:=PySem.W.hideAll h (DY h H)
theorem aaN (h:Heap)(H:Hp):(lK h H).objs.size=h.objs.size:=PySem.W.hideAll_size _ _
theorem aaR {o:Obj}(e:h.get? b=some o)(n:H b=none):(lK h H).get? b=some o :=
 PySem.W.hideAll_get _ e λhm=>by
  have q:(H b).isSome=true:=(List.mem_filter.mp hm).2;rw[n] at q;simp at q
theorem aaw {o:Obj}(e:(lK h H).get? b=some o):h.get? b=some o/\H b=none:=by
 have e':h.get? b=some o:=PySem.W.of_hideAll (DY h H) e;refine⟨e',?_⟩
 cases q:H b with
 |none=>rfl
 |some x =>
  have hm:b∈DY h H:=List.mem_filter.mpr ⟨List.mem_range.mpr (Heap.lt_size e'),by simp[q]⟩;have z:(lK h H).get? b=none:=PySem.W.hideAll_none (DY h H) hm;rw[z] at e;cases e
structure Mod (K:PySem.W.Frag)(mg:FA)(base:Heap):Prop where
 kin:K.In base
 glob:base.Ns mainGlobals mg
 blt:∃mb,base.Ns builtinsNs mb/\∀x:Str,x ≠ "__name__"->mb x=bootBuiltins x
 nolimit:base.NoLimit
structure Cx where
 prog:Program
 w:World
 K:PySem.W.Frag
 mg:Str->Option Value
 base:Heap
 A:Around
 N:List Str
 s₀:Shared
 H₀:Hp
 env:Env
 outer:List Env
 stack:List Env
 ex:List Addr
 fn:Str->Bool
 calm:Bool
 pn:List (Addr×Obj)
 xe:Value->Shared->Prop
noncomputable def cW (l:List Env):List Addr:=l.filterMap (·.frame)
noncomputable abbrev Cx.fs (X:Cx):List Addr:=cW X.outer
noncomputable def D5 (sc:Scope)(x:Str):Prop:=sc.names.lookup x=some .local\/sc.names.lookup x=some .cell\/sc.names.lookup x=some .free
noncomputable def DD (sc:Scope)(x:Str):Prop:=sc.names.lookup x=some .local\/sc.names.lookup x=some .cell
noncomputable def abT (env:Env)(h:Heap)(m:FA)(x:Str)(u:Value):Prop :=
 (env.kindOf x=some .local/\m x=some u)\/((env.kindOf x=some .cell\/env.kindOf x=some .free)/\∃c,env.cells.lookup x=some c/\h.IsCell c (some u))
structure Cx.Ok (X:Cx):Prop where
 mod:Mod X.K X.mg X.base
 kind:X.env.scope.kind=.function
 glob:X.env.globals=mainGlobals
 blt:X.env.builtins=builtinsNs
 above:X.s₀.heap.objs.size<=X.env.locals
 inj:∀x y c,X.env.cells.lookup x=some c->X.env.cells.lookup y=some c->x=y
 has:∀x,(X.env.kindOf x=some .cell\/X.env.kindOf x=some .free)->∃c,X.env.cells.lookup x=some c
 cab:∀x c,X.fn x=true->X.env.cells.lookup x=some c->X.s₀.heap.objs.size<=c
 hd:X.calm=true->X.A.handled=none
 frames:X.A.frames=some X.stack
 stk:X.stack=X.outer\/(X.stack=X.env::X.outer/\X.env.frame=some X.env.locals)
 exf:∀b∈X.ex,b≠X.env.locals/\∀x c,X.env.cells.lookup x=some c->c≠b
 bs:∀b o,X.base.get? b=some o->X.s₀.heap.get? b=some o/\X.H₀ b=none
 bsz:X.base.objs.size<=X.s₀.heap.objs.size
 abo:∀b o,X.base.get? b=some o->b∉X.ex
 abx:∀b∈X.ex,b∉X.fs
 aaF:X.s₀.heap.FunFrames X.base X.outer
 frf:∀b∈X.fs,X.H₀ b=none
structure Inv (X:Cx)(pins:List (Addr×Obj))(σ:List (Option V))(H:Hp)(s:Fp):Prop where
 ok:X.Ok
 os:s.os=X.s₀.os
 bare:AllBare s.gens
 base:Un X.fs X.ex X.H₀ H X.s₀.heap s.heap
 loc:∃m,s.heap.Ns X.env.locals m/\∀(i:Nat)(x:Str)(v:V),X.N[i]?=some x->σ[i]?=some (some v)->D5 X.env.scope x->∃u,aC v u/\abT X.env s.heap m x u
 cell:∀x c,X.env.cells.lookup x=some c->∃v,s.heap.IsCell c v
 free:H X.env.locals=none
 aaz:∀x c,X.env.cells.lookup x=some c->H c=none
 pin:∀p∈X.pn++pins,s.heap.get? p.1=some p.2/\H p.1=none/\p.1≠X.env.locals/\p.1∉X.fs/\∀v,p.2.data≠.cell v
 hok:dM X.prog X.w H s.heap
 len:σ.length=X.N.length
variable {N:wk}{i:Nat}{x:Str}{M:Model}{A:Around}{v:V}
section
variable {X:Cx}{pins:List (Addr×Obj)}{σ:List (Option V)}{H H':Hp}{s:Fp}{h':Heap}
theorem Cx.Ok.acz (ok:X.Ok){o:Obj}(e:X.base.get? b=some o):b∉X.fs:=λhb=>by
 have:=(ok.aaF.mem hb).1;rw[e] at this;cases this
theorem Inv.bs (I:Inv X pins σ H s):∀b o,X.base.get? b=some o->s.heap.get? b=some o/\H b=none:=λb o e =>
 ⟨I.base.keep b o (I.ok.bs b o e).1 (I.ok.bs b o e).2 (I.ok.acz e) (I.ok.abo b o e),I.base.free b o (I.ok.bs b o e).1 (I.ok.bs b o e).2 (I.ok.abo b o e)⟩
theorem Inv.bk (I:Inv X pins σ H s):∀b o,X.base.get? b=some o->s.heap.get? b=some o:=λb o e=>(I.bs b o e).1
theorem Inv.mod (I:Inv X pins σ H s):Mod X.K X.mg X.base:=I.ok.mod
theorem Inv.kIn (I:Inv X pins σ H s):X.K.In s.heap:=I.ok.mod.kin.keeps I.bk
theorem Inv.lt (I:Inv X pins σ H s):X.env.locals<s.heap.objs.size:=let⟨_,hn,_⟩:=I.loc;hn.lt
theorem Inv.sz (I:Inv X pins σ H s):X.s₀.heap.objs.size<=s.heap.objs.size:=Nat.le_trans I.ok.above (Nat.le_of_lt I.lt)
theorem Inv.ab7 (I:Inv X pins σ H s)(h:s.heap.objs.size<=a):a∉X.fs:=λhb=>by
 obtain⟨_,o,ho,_⟩:=I.ok.aaF.mem hb;exact absurd (Nat.lt_of_lt_of_le (Heap.lt_size ho) (Nat.le_trans I.sz h)) (Nat.lt_irrefl _)
theorem Inv.cne (I:Inv X pins σ H s):∀x c,X.env.cells.lookup x=some c->c≠X.env.locals:=λx c e z=>by
 obtain⟨v,o,ho,hd⟩:=I.cell x c e;obtain⟨m,⟨o',es,ep,Gq,PU,_⟩,_⟩:=I.loc;rw[z,Gq] at ho;cases ho;rw[PU] at hd;cases hd
theorem Inv.aaF (I:Inv X pins σ H s):s.heap.FunFrames X.base X.outer:=by
 have all:∀(l:List Env),(∀b∈cW l,b∈X.fs)->X.s₀.heap.FunFrames X.base l->s.heap.FunFrames X.base l:=by
  intro l
  induction l with
  |nil=>intro _ _;trivial
  |cons env r ih =>
   intro hs hl;obtain⟨hk,⟨L,o,hf,hn,ho,hd⟩,hr⟩:=hl;have hL:L∈X.fs:=hs L (by unfold cW;rw[List.filterMap_cons,hf];exact List.mem_cons_self);obtain⟨sl,e⟩:=I.base.slot L o ho (I.ok.frf L hL) hL λz=>I.ok.abx L z hL;exact⟨hk,⟨L,_,hf,hn,e,hd⟩,ih (λb hb=>hs b (by unfold cW;rw[List.filterMap_cons,hf];exact List.mem_cons_of_mem _ hb)) hr⟩
 exact all X.outer (λ_ hb=>hb) I.ok.aaF
theorem Inv.stack (I:Inv X pins σ H s):s.heap.FunFrames X.base X.stack:=by
 rcases I.ok.stk with e|⟨e,hf⟩
 ·rw[e];exact I.aaF
 ·rw[e];obtain⟨m,hn,_⟩:=I.loc;refine .cons (by rw[I.ok.kind];decide) hf hn ?_ I.aaF;exact Heap.get?_none_of_le (Nat.le_trans I.ok.bsz I.ok.above)
theorem Inv.aaE (I:Inv X pins σ H s):∀b∈cW X.stack,b∈X.env.locals::X.fs:=λb hb=>by
 rcases I.ok.stk with e|⟨e,hf⟩
 ·rw[e] at hb;exact List.mem_cons_of_mem _ hb
 ·rw[e] at hb;unfold cW at hb;rw[List.filterMap_cons,hf] at hb;exact hb
theorem Inv.aaP (I:Inv X pins σ H s):∀b∈cW X.stack,H b=none:=λb hb=>by
 rcases List.mem_cons.mp (I.aaE b hb) with e|hb
 ·rw[e];exact I.free
 ·obtain⟨_,o,ho,_⟩:=I.ok.aaF.mem hb;exact I.base.free b o ho (I.ok.frf b hb) λz=>I.ok.abx b z hb
theorem Inv.step {g':Array GenState}{t':Nat}{d':Drawn}{ch:List Addr}(I:Inv X pins σ H s)
 (Jc:∀b∈ch,(b∈X.ex\/X.s₀.heap.objs.size<=b)/\b≠X.env.locals/\(∀x c,X.env.cells.lookup x=some c->c≠b)/\∀p∈X.pn++pins,p.1≠b)
 (keep:∀b o,b≠X.env.locals->b∉X.fs->b∉ch->s.heap.get? b=some o->H b=none->h'.get? b=some o)
 (slot:∀b o,b≠X.env.locals->b∈X.fs->b∉ch->s.heap.get? b=some o->H b=none->∃sl,h'.get? b=some {o with slots:=sl})(free:∀b o,b∉ch->s.heap.get? b=some o->H b=none->H' b=none)
 (there:∀b o,b∉ch->s.heap.get? b=some o->∃o',h'.get? b=some o')
 (aaC:∀b xs,H b=some (.tup xs)->H' b=some (.tup xs))(aaB:∀b o u,H b=some (.frz o u)->H' b=some (.frz o u))(aaI:∀b ps,H b=some (.tbl ps)->∃more,H' b=some (.tbl (ps++more)))
 (ns:∀m,s.heap.Ns X.env.locals m->h'.Ns X.env.locals m)(hok:dM X.prog X.w H' h')(hg:AllBare g'):
 Inv X pins σ H' {s with heap:=h',gens:=g',drawn:=d',toks:=t'}:=by
 have TB:∀b o,X.s₀.heap.get? b=some o->b≠X.env.locals:=λb o e=>Nat.ne_of_lt (Nat.lt_of_lt_of_le (Heap.lt_size e) I.ok.above)
 have OT:∀b o,X.s₀.heap.get? b=some o->b∉X.ex->b∉ch:=λb o e hx hb=>by
  rcases(Jc b hb).1 with z|z
  ·exact hx z
  ·exact absurd (Nat.lt_of_lt_of_le (Heap.lt_size e) z) (Nat.lt_irrefl _)
 have cellK:∀x c,X.env.cells.lookup x=some c->∀v,s.heap.IsCell c v->h'.IsCell c v:=λx c e v ⟨o,ho,hd⟩=>by
  have L9:c∉ch:=λz=>(Jc c z).2.2.1 x c e rfl
  by_cases hc:c∈X.fs
  ·obtain⟨sl,q⟩:=slot c o (I.cne x c e) hc L9 ho (I.aaz x c e);exact⟨_,q,hd⟩
  ·exact⟨o,keep c o (I.cne x c e) hc L9 ho (I.aaz x c e),hd⟩
 refine⟨I.ok,I.os,hg,⟨λb o e n hb hx=>?_,λb o e n hb hx=>?_,λb o e n hx=>?_,λb o e hx=>?_,λb xs e=>aaC b xs (I.base.aaC b xs e),λb o xs e=>aaB b o xs (I.base.aaB b o xs e),λb ps e=>?_⟩,?_,λx c e=>?_,?_,λx c e=>?_,λp hp=>?_,hok,I.len⟩
 ·exact keep b o (TB b o e) hb (OT b o e hx) (I.base.keep b o e n hb hx) (I.base.free b o e n hx)
 ·obtain⟨sl,e1⟩:=I.base.slot b o e n hb hx;obtain⟨Hv,e2⟩:=slot b _ (TB b o e) hb (OT b o e hx) e1 (I.base.free b o e n hx);exact⟨Hv,e2⟩
 ·obtain⟨o',e1⟩:=I.base.there b o e hx;exact free b o' (OT b o e hx) e1 (I.base.free b o e n hx)
 ·obtain⟨o',e1⟩:=I.base.there b o e hx;exact there b o' (OT b o e hx) e1
 ·obtain⟨m1,e1⟩:=I.base.aaI b ps e;obtain⟨m2,e2⟩:=aaI b _ e1;exact⟨m1++m2,by rw[e2,Array.append_assoc]⟩
 ·obtain⟨m,hn,hl⟩:=I.loc;refine⟨m,ns m hn,λi x v e1 e2 e3=>?_⟩;obtain⟨u,r,l⟩:=hl i x v e1 e2 e3;refine⟨u,r,?_⟩
  rcases l with l|⟨k,c,e,z⟩
  ·exact .inl l
  ·exact .inr ⟨k,c,e,cellK x c e _ z⟩
 ·obtain⟨v,z⟩:=I.cell x c e;exact⟨v,cellK x c e v z⟩
 ·obtain⟨m,⟨o,_,_,ho,_⟩,_⟩:=I.loc;exact free _ o (λz=>(Jc _ z).2.1 rfl) ho I.free
 ·obtain⟨v,o,ho,hd⟩:=I.cell x c e;exact free c o (λz=>(Jc c z).2.2.1 x c e rfl) ho (I.aaz x c e)
 ·obtain⟨e,n,ne,nf,d⟩:=I.pin p hp;have L9:p.1∉ch:=λz=>(Jc p.1 z).2.2.2 p hp rfl;exact⟨keep p.1 p.2 ne nf L9 e n,free p.1 p.2 L9 e n,ne,nf,d⟩
theorem Inv.un {t':Nat}(I:Inv X pins σ H s)(u:Un X.fs [] H H' s.heap h')(hok:dM X.prog X.w H' h'):Inv X pins σ H' {s with heap:=h',toks:=t'}:=by
 obtain⟨m,⟨o,es,ep,ho,r⟩,_⟩:=id I.loc;obtain⟨sl,hL⟩:=u.any ho I.free (by simp)
 exact I.step (g':=s.gens) (d':=s.drawn) (ch:=[]) (λ_ z=>nomatch z) (λb o _ hb _ e n=>u.keep b o e n hb (by simp)) (λb o _ hb _ e n=>u.slot b o e n hb (by simp)) (λb o _ e n=>u.free b o e n (by simp)) (λb o _ e=>u.there b o e (by simp)) u.aaC u.aaB u.aaI (λm' hm=>by
  obtain⟨o',Im,JG,Gq,r'⟩:=hm;rw[ho] at Gq;cases Gq
  exact⟨_,Im,JG,hL,r'⟩) hok I.bare
theorem Inv.call {g':Array GenState}{t':Nat}{d':Drawn}{ch:List Addr}(I:Inv X pins σ H s)(u:Un (cW X.stack) ch H H' s.heap h')(hok:dM X.prog X.w H' h')(hg:AllBare g')
 (Jc:∀b∈ch,(b∈X.ex\/X.s₀.heap.objs.size<=b)/\b≠X.env.locals/\(∀x c,X.env.cells.lookup x=some c->c≠b)/\∀p∈X.pn++pins,p.1≠b):
 Inv X pins σ H' {s with heap:=h',gens:=g',drawn:=d',toks:=t'}:=by
 obtain⟨m,⟨o,es,ep,ho,r⟩,_⟩:=id I.loc;obtain⟨sl,hL⟩:=u.any ho I.free λz=>(Jc _ z).2.1 rfl
 exact I.step (ch:=ch) Jc (λb o hL hb hc e n=>u.keep b o e n (λz=>(List.mem_cons.mp (I.aaE b z)).elim hL hb) hc) (λb o _ _ hc e n=>u.any e n hc) (λb o hc e n=>u.free b o e n hc) (λb o hc e=>u.there b o e hc) u.aaC u.aaB u.aaI (λm' hm=>by
  obtain⟨o',Im,JG,Gq,r'⟩:=hm;rw[ho] at Gq;cases Gq
  exact⟨_,Im,JG,hL,r'⟩) hok hg
theorem Inv.turned {t':Nat}{it:Addr}(I:Inv X pins σ H s)(k:∀b o,b≠it->s.heap.get? b=some o->h'.get? b=some o)(hn:H it=none)(hL:it≠X.env.locals)
 (h1:it∈X.ex\/X.s₀.heap.objs.size<=it)(h2:∀x c,X.env.cells.lookup x=some c->c≠it)(h3:∀p∈X.pn++pins,p.1≠it):Inv X pins σ H {s with heap:=h',toks:=t'}:=by
 have JH:∀b u,H b=some u->b≠it:=λb u e z=>by rw[z,hn] at e;cases e
 refine I.step (g':=s.gens) (d':=s.drawn) (ch:=[it]) (λb hb=>?_) (λb o _ _ hc e _=>k b o (λz=>hc (by simp[z])) e) (λb o _ _ hc e _=>⟨o.slots,k b o (λz=>hc (by simp[z])) e⟩) (λ_ _ _ _ n=>n)
  (λb o hc e=>⟨o,k b o (λz=>hc (by simp[z])) e⟩) (λ_ _ e=>e) (λ_ _ _ e=>e) (λb ps e=>⟨#[],by rw[e];simp⟩) (λm hm=>?_) (λb u e=>?_) I.bare
 ·have e:b=it:=by simpa using hb
  subst e;exact⟨h1,hL,h2,h3⟩
 ·obtain⟨o,es,ep,ho,r⟩:=hm;exact⟨o,es,ep,k _ o (Ne.symm hL) ho,r⟩
 ·refine(I.hok b u e).aaY (λc v hc q=>k c v ?_ q) (λ_ q=>q) λ_ _ q=>q
  rcases hc with z|z
  ·rw[z];exact JH b u e
  ·exact JH c _ z
theorem Inv.tok (I:Inv X pins σ H s)(t:Nat):Inv X pins σ H {s with toks:=t}:=I.un (h':=s.heap) (t':=t) Un.refl I.hok
theorem Inv.kept {t':Nat}(I:Inv X pins σ H s)(k:∀b u,s.heap.get? b=some u->h'.get? b=some u):Inv X pins σ H {s with heap:=h',toks:=t'}:=I.un (Un.kept k) (I.hok.kept k)
theorem Inv.laid {a:Addr}{o:HO}{t':Nat}(I:Inv X pins σ H s)(k:∀b u,s.heap.get? b=some u->h'.get? b=some u)(hp:s.heap.objs.size<=a)(new:ba X.prog X.w (upd H a o) h' a o):
 Inv X pins σ (upd H a o) {s with heap:=h',toks:=t'}:=I.un (Un.laid k hp (I.hok.fresh hp)) (I.hok.laid k hp new)
theorem Inv.write {x e:Addr}{o:HO}{t':Nat}(I:Inv X pins σ H s)(mu:DG (H x))(he:e=x\/H e=some (.own x))(k:∀b u,b≠e->s.heap.get? b=some u->h'.get? b=some u)(LF:∃u,h'.get? e=some u)
 (new:ba X.prog X.w (upd H x o) h' x o):Inv X pins σ (upd H x o) {s with heap:=h',toks:=t'}:=I.un (Un.write mu he k LF) (I.hok.write mu he k LF new)
theorem Inv.aaG {pins':List (Addr×Obj)}(I:Inv X pins σ H s)(h:∀p∈pins',s.heap.get? p.1=some p.2/\H p.1=none/\p.1≠X.env.locals/\p.1∉X.fs/\∀v,p.2.data≠.cell v):Inv X pins' σ H s :=
 ⟨I.ok,I.os,I.bare,I.base,I.loc,I.cell,I.free,I.aaz,λp hp=>(List.mem_append.mp hp).elim (λz=>I.pin p (List.mem_append_left _ z)) (h p),I.hok,I.len⟩
theorem jD (hN:N.Nodup){j:Nat}(a:N[i]?=some x)(b:N[j]?=some x):i=j:=by
 obtain⟨h1,e1⟩:=List.getElem?_eq_some_iff.mp a;obtain⟨h2,e2⟩:=List.getElem?_eq_some_iff.mp b;exact(List.getElem_inj hN).mp (e1.trans e2.symm)
theorem l8 {E:yg}{Q:Unit->Shared->Prop}(I:Inv X pins σ H s)(hN:X.N.Nodup)(hi:X.N[i]?=some x)(hx:DD X.env.scope x)(r:aC v u)
 (h:∀s',Inv X pins (σ.set i (some v)) H s'->(∃a,Heap.SameBut a s.heap s'.heap/\(a=X.env.locals\/X.env.cells.lookup x=some a))->Q () s')(hf:X.fn x=true\/X.env.scope.names.lookup x=some .local:=by first|exact .inl rfl|exact .inr rfl|assumption):wpAny M A (storeName X.env x u) Q E s:=by
 obtain⟨m,hn,hl⟩:=id I.loc
 have PV:(X.env.scope.kind == .class || (X.env.scope.kind == .module&&X.env.locals != X.env.globals))=false:=by rw[I.ok.kind];rfl
 have TC:i<σ.length:=by rw[I.len];exact(List.getElem?_eq_some_iff.mp hi).1
 have cne:=I.cne
 have tracked:∀{a:Addr}{h':Heap},(∃o,s.heap.get? a=some o/\H a=none)->Heap.SameBut a s.heap h'->dM X.prog X.w H h':=λ{a h'} ha hs b ob e=>by
  obtain⟨_,_,Gg⟩:=ha;refine(I.hok b ob e).aaY (λc w' hc q=>(hs.2 c ?_).trans q) (λ_ q=>q) λ_ _ q=>q;rintro rfl
  rcases hc with rfl|hc
  ·rw[Gg] at e;cases e
  ·rw[Gg] at hc;cases hc
 rcases hx with hk|hk
 ·refine wpAny_storeName_local hk hn (λh' PY hs=>?_) PV;obtain⟨oL,_,_,VR,_⟩:=id hn;refine h _ ⟨I.ok,I.os,I.bare,⟨λb o e n hb hx=>?_,λb o e n hb hx=>?_,I.base.free,λb o e hx=>?_,I.base.aaC,I.base.aaB,I.base.aaI⟩,⟨_,PY,λj y v' e1 e2 e3=>?_⟩,λy c e=>?_,I.free,I.aaz,λp hp=>?_,tracked ⟨oL,VR,I.free⟩ hs,by simpa using I.len⟩ ⟨_,hs,.inl rfl⟩
  ·exact(hs.2 b (Nat.ne_of_lt (Nat.lt_of_lt_of_le (Heap.lt_size e) I.ok.above))).trans (I.base.keep b o e n hb hx)
  ·obtain⟨sl,e1⟩:=I.base.slot b o e n hb hx;exact⟨sl,(hs.2 b (Nat.ne_of_lt (Nat.lt_of_lt_of_le (Heap.lt_size e) I.ok.above))).trans e1⟩
  ·obtain⟨o',e1⟩:=I.base.there b o e hx;exact⟨o',(hs.2 b (Nat.ne_of_lt (Nat.lt_of_lt_of_le (Heap.lt_size e) I.ok.above))).trans e1⟩
  ·by_cases hj:j=i
   ·subst hj;rw[hi] at e1;cases e1;rw[List.getElem?_set_self TC] at e2
    cases e2
    exact⟨u,r,.inl ⟨hk,by simp⟩⟩
   ·rw[List.getElem?_set_ne (Ne.symm hj)] at e2;obtain⟨u',r',q⟩:=hl j y v' e1 e2 e3;refine⟨u',r',?_⟩
    rcases q with⟨k,e⟩|⟨k,c,e,z⟩
    ·refine .inl ⟨k,?_⟩;have:y≠x:=λe=>hj (jD hN e1 (e▸hi));simp[this,e]
    ·exact .inr ⟨k,c,e,z.sameBut hs (cne y c e)⟩
  ·obtain⟨w',z⟩:=I.cell y c e;exact⟨w',z.sameBut hs (cne y c e)⟩
  ·obtain⟨e,n,ne,nf,d⟩:=I.pin p hp;exact⟨(hs.2 p.1 ne).trans e,n,ne,nf,d⟩
 ·have PZ:X.fn x=true:=by
   rcases hf with z|z
   ·exact z
   ·rw[z] at hk;cases hk
  obtain⟨c,hc⟩:=I.ok.has x (.inl hk);obtain⟨w',z⟩:=I.cell x c hc;refine wpAny_storeName_cell I.ok.kind hk hc z (λh' F1 hs=>?_);obtain⟨oc,GX,P4⟩:=id z;refine h {s with heap:=h'} ⟨I.ok,I.os,I.bare,⟨λb o e n hb hx=>?_,λb o e n hb hx=>?_,I.base.free,λb o e hx=>?_,I.base.aaC,I.base.aaB,I.base.aaI⟩,⟨m,hn.sameBut hs (Ne.symm (cne x c hc)),λj y v' e1 e2 e3=>?_⟩,λy c' e=>?_,I.free,I.aaz,λp hp=>?_,tracked ⟨oc,GX,I.aaz x c hc⟩ hs,by simpa using I.len⟩ ⟨c,hs,.inr hc⟩
  ·exact(hs.2 b (Nat.ne_of_lt (Nat.lt_of_lt_of_le (Heap.lt_size e) (I.ok.cab x c PZ hc)))).trans (I.base.keep b o e n hb hx)
  ·obtain⟨sl,e1⟩:=I.base.slot b o e n hb hx;exact⟨sl,(hs.2 b (Nat.ne_of_lt (Nat.lt_of_lt_of_le (Heap.lt_size e) (I.ok.cab x c PZ hc)))).trans e1⟩
  ·obtain⟨o',e1⟩:=I.base.there b o e hx;exact⟨o',(hs.2 b (Nat.ne_of_lt (Nat.lt_of_lt_of_le (Heap.lt_size e) (I.ok.cab x c PZ hc)))).trans e1⟩
  ·by_cases hj:j=i
   ·subst hj;rw[hi] at e1;cases e1;rw[List.getElem?_set_self TC] at e2
    cases e2
    exact⟨u,r,.inr ⟨.inl hk,c,hc,F1⟩⟩
   ·rw[List.getElem?_set_ne (Ne.symm hj)] at e2;obtain⟨u',r',q⟩:=hl j y v' e1 e2 e3;refine⟨u',r',?_⟩
    rcases q with q|⟨k,c',e,z'⟩
    ·exact .inl q
    ·refine .inr ⟨k,c',e,z'.sameBut hs ?_⟩;rintro rfl;exact hj (jD hN e1 (I.ok.inj _ _ _ e hc▸hi))
  ·by_cases OU:c'=c
   ·subst OU;exact⟨_,F1⟩
   ·obtain⟨w2,z2⟩:=I.cell y c' e;exact⟨w2,z2.sameBut hs OU⟩
  ·obtain⟨e,n,ne,nf,d⟩:=I.pin p hp;refine⟨(hs.2 p.1 ?_).trans e,n,ne,nf,d⟩;intro q;rw[q,GX] at e;have q':oc=p.2:=Option.some.inj e;exact d w' (by rw[<-q'];exact P4)
theorem fJ {M:Model}{E:yg}{Q:Unit->Shared->Prop}(I:Inv X pins σ H s)(hN:X.N.Nodup)(hi:X.N[i]?=some x)(hx:DD X.env.scope x)(r:aC v u)
 (h:∀s',Inv X pins (σ.set i (some v)) H s'->Q () s')(hf:X.fn x=true\/X.env.scope.names.lookup x=some .local:=by first|exact .inl rfl|exact .inr rfl|assumption):wpAny M A (storeName X.env x u) Q E s :=
 l8 I hN hi hx r (λs' I' _=>h s' I') hf
theorem Inv.abp {s':Fp}{ch:List Addr}(I:Inv X pins σ H s)(ho:s'.os=s.os)(u:Un (cW X.stack) ch H H' s.heap s'.heap)(hok:dM X.prog X.w H' s'.heap)(hg:AllBare s'.gens)
 (Jc:∀b∈ch,(b∈X.ex\/X.s₀.heap.objs.size<=b)/\b≠X.env.locals/\(∀x c,X.env.cells.lookup x=some c->c≠b)/\∀p∈X.pn++pins,p.1≠b):Inv X pins σ H' s':=by
 obtain⟨h',g',d',t',o'⟩:=s';have e:o'=s.os:=ho;subst e;exact I.call (g':=g') (t':=t') (d':=d') u hok hg Jc
end
noncomputable abbrev XK:=Value->Option Addr->Hp->Prop
noncomputable abbrev St:=List (Option V)
noncomputable abbrev VK:=V->Hp->Prop
noncomputable abbrev TE:=St->Hp->VK->Prop
noncomputable abbrev TT:=St->Hp->(Bool->Hp->Prop)->Prop
noncomputable abbrev TA:=St->Hp->(List V->Hp->Prop)->Prop
structure Ends where
 nx:St->Hp->Prop
 rt:VK
 bk:St->Hp->Prop:=λ_ _=>False
 ct:St->Hp->Prop:=λ_ _=>False
noncomputable abbrev TS:=Ends->St->Hp->Prop
noncomputable def EP (X:Cx)(pins:List (Addr×Obj))(σ:St)(Q:VK)(u:Value)(s':Fp):Prop:=∃v H',Inv X pins σ H' s'/\aC v u/\Q v H'
noncomputable def TP (X:Cx)(pins:List (Addr×Obj))(σ:St)(Q:Bool->Hp->Prop)(b:Bool)(s':Fp):Prop:=∃H',Inv X pins σ H' s'/\Q b H'
noncomputable def CXT (X:Cx)(pins:List (Addr×Obj))(σ:St)(Q:List V->Hp->Prop)(us:qw)(s':Fp):Prop:=∃vs H',Inv X pins σ H' s'/\aG vs us/\Q vs H'
noncomputable def SP (X:Cx)(pins:List (Addr×Obj))(D:Ends)(f:Flow)(s':Fp):Prop :=
 match f with
 | .next=>∃σ' H',Inv X pins σ' H' s'/\D.nx σ' H'
 | .brk=>∃σ' H',Inv X pins σ' H' s'/\D.bk σ' H'
 | .cont=>∃σ' H',Inv X pins σ' H' s'/\D.ct σ' H'
 | .ret u=>∃v σ' H',Inv X pins σ' H' s'/\aC v u/\D.rt v H'
noncomputable def PE (X:Cx)(e:Expr)(t:TE):Prop :=
 ∀(pins:List (Addr×Obj))(s:Fp)(σ:St)(H:Hp)(Q:VK),Inv X pins σ H s->t σ H Q->wpAny (model X.prog X.w) X.A (eval e X.env) (EP X pins σ Q) X.xe s
noncomputable def PT (X:Cx)(e:Expr)(t:TT):Prop :=
 ∀(pins:List (Addr×Obj))(s:Fp)(σ:St)(H:Hp)(Q:Bool->Hp->Prop),Inv X pins σ H s->t σ H Q->wpAny (model X.prog X.w) X.A (isTrue e X.env (eval e X.env)) (TP X pins σ Q) X.xe s
noncomputable def PW (X:Cx)(e:Expr)(t:TT):Prop :=
 ∀(c5:Sem Value)(pins:List (Addr×Obj))(s:Fp)(σ:St)(H:Hp)(Q:Bool->Hp->Prop),Inv X pins σ H s->t σ H Q->wpAny (model X.prog X.w) X.A (isTrue e X.env c5) (TP X pins σ Q) X.xe s
variable {X:Cx}{e:Expr}
theorem PW.pt {t:TT}(h:PW X e t):PT X e t:=h _
noncomputable def PA (X:Cx)(es:Bo)(t:TA):Prop :=
 ∀(pos:Pos)(pins:List (Addr×Obj))(s:Fp)(σ:St)(H:Hp)(Q:List V->Hp->Prop),Inv X pins σ H s->t σ H Q->wpAny (model X.prog X.w) X.A (spliced (backTo pos (starEach es X.env))) (CXT X pins σ Q) X.xe s
noncomputable def PS (X:Cx)(st:Stmt)(t:TS):Prop :=
 ∀(pins:List (Addr×Obj))(s:Fp)(σ:St)(H:Hp)(D:Ends),Inv X pins σ H s->t D σ H->wpAny (model X.prog X.w) X.A (exec st X.env) (SP X pins D) X.xe s
noncomputable def iE (X:Cx)(st:rY)(t:TS):Prop :=
 ∀(pins:List (Addr×Obj))(s:Fp)(σ:St)(H:Hp)(D:Ends),Inv X pins σ H s->t D σ H->wpAny (model X.prog X.w) X.A (execs st X.env) (SP X pins D) X.xe s
variable {s:Fp}
theorem bp {α:Type}{t:Sem α}{Q Q':α->Shared->Prop}{E:yg}(h:wpAny M A t Q E s)(hQ:∀a s,Q a s->Q' a s):wpAny M A t Q' E s:=wpAny_mono h hQ λ_ _ x=>x
variable {pins:List (Addr×Obj)}{σ:St}{op:CmpOp}
section
variable {X:Cx}
noncomputable def fH (i:Nat):TE:=λσ H Q=>∃v,σ[i]?=some (some v)/\Q v H
noncomputable def tC (v:V):TE:=λ_ H Q=>Q v H
theorem aaV {pos:Pos}(hN:X.N[i]?=some x)(hv:D5 X.env.scope x)(hd:(x==("__debug__":Str))=false:=by decide)(Gs:(x==("__classdict__":Str))=false:=by decide):PE X (.Name x pos) (fH i):=by
 intro pins s σ H Q I h;obtain⟨v,e,h⟩:=h;obtain⟨m,hn,hl⟩:=I.loc;obtain⟨u,r,l⟩:=hl i x v hN e hv;have fin:EP X pins σ Q u s:=⟨v,H,I,r,h⟩
 rcases l with⟨hk,hm⟩|⟨hk,c,hc,F8⟩
 ·exact wpAny_Name (wpAny_loadName_local I.ok.kind hk hn hm fin) hd
 ·rcases hk with hk|hk
  ·exact wpAny_Name (wpAny_loadName_cell I.ok.kind hk hc F8 fin) hd
  ·exact wpAny_Name (wpAny_loadName_free I.ok.kind hk hc F8 fin Gs) hd
theorem ak {i j pos}:PE X (.Constant (.int i) j pos) (tC (.int i)):=λ_ _ _ H _ I h=>wpAny_Constant_int ⟨.int i,H,I.tok _,⟨_,rfl⟩,h⟩
theorem fF {b j pos}:PE X (.Constant (.bool b) j pos) (tC (.bl b)):=λ_ _ _ H _ I h=>Constant_bool ⟨.bl b,H,I,rfl,h⟩
theorem n9 {j pos}:PE X (.Constant .none j pos) (tC .non):=λ_ _ _ H _ I h=>Constant_none ⟨.non,H,I,rfl,h⟩
theorem c7 {x j pos}:PE X (.Constant (.str x) j pos) (tC (.str x)):=λ_ _ _ H _ I h=>Calls.Constant_str ⟨.str x,H,I.tok _,⟨_,rfl⟩,h⟩
noncomputable def Gl (X:Cx)(x:Str):Prop:=X.env.kindOf x=some .globalImplicit
theorem dz {E:yg}{pos:Pos}{Q:yg}(I:Inv X pins σ H s)(hg:Gl X x)(hm:X.mg x=some u)(h:Q u s)
 (hd:(x==("__debug__":Str))=false:=by decide):wpAny (model X.prog X.w) X.A (eval (.Name x pos) X.env) Q E s :=
 Calls.Name_function_global I.ok.kind hg (Calls.loadGlobal_global (by rw[I.ok.glob];exact I.mod.glob.keeps I.bk) hm h) hd
theorem gP {E:yg}{pos:Pos}{Q:yg}(I:Inv X pins σ H s)(hg:Gl X x)(hm:X.mg x=none)(hv:bootBuiltins x=some u)(h:Q u s)
 (hn:x ≠ "__name__":=by decide)(hd:(x==("__debug__":Str))=false:=by decide):wpAny (model X.prog X.w) X.A (eval (.Name x pos) X.env) Q E s:=by
 obtain⟨mb,h1,h2⟩:=I.mod.blt;exact Calls.Name_function_global I.ok.kind hg (Calls.loadGlobal_builtin (by rw[I.ok.glob];exact I.mod.glob.keeps I.bk) hm (by rw[I.ok.blt];exact h1.keeps I.bk) ((h2 x hn).trans hv) h) hd
theorem cR {pos:Pos}(hg:Gl X x)(hm:X.mg x=some u)(r:aC v u)(hd:(x==("__debug__":Str))=false:=by decide):PE X (.Name x pos) (tC v):=
 λ_ _ _ H _ I h=>dz I hg hm ⟨v,H,I,r,h⟩ hd
theorem du {pos:Pos}(hg:Gl X x)(hm:X.mg x=none)(hv:bootBuiltins x=some u)(r:aC v u)(hn:x ≠ "__name__":=by decide)(hd:(x==("__debug__":Str))=false:=by decide):PE X (.Name x pos) (tC v):=
 λ_ _ _ H _ I h=>gP I hg hm hv ⟨v,H,I,r,h⟩ hn hd
variable {a b:Expr}{ta tb:TE}{pos:Pos}
noncomputable def PC (X:Cx)(op:CmpOp)(a b:Expr)(t:TE):Prop :=
 ∀(pins:List (Addr×Obj))(s:Fp)(σ:St)(H:Hp)(Q:VK),Inv X pins σ H s->t σ H Q →
  wpAny (model X.prog X.w) X.A (eval a X.env) (λv s₁=>wpAny (model X.prog X.w) X.A (eval b X.env) (λu s₂=>wpAny (model X.prog X.w) X.A (compareOp op v u) (EP X pins σ Q) X.xe s₂) X.xe s₁) X.xe s
theorem Cls (b:Expr)(h:op ≠ .In)(h2:op ≠ .NotIn):behindInMarks op b=false:=by
 have e1:(op==CmpOp.In)=false:=by cases op <;> first|rfl|exact absurd rfl h
 have e2:(op==CmpOp.NotIn)=false:=by cases op <;> first|rfl|exact absurd rfl h2
 cases b <;> simp[behindInMarks,e1,e2]
noncomputable def NoD (ta:TE):TE:=λσ H Q=>ta σ H λx H1=>Q (.bl (decide (x=.non))) H1
theorem aC.abO {x:V}{v:Value}(r:aC x v):(v==Value.none)=decide (x=.non):=by
 cases x with
 |non=>cases r;rfl
 |bl _=>cases r;rfl
 |int _=>obtain⟨t,rfl⟩:=r;rfl
 |str _=>obtain⟨t,rfl⟩:=r;rfl
 |byt _=>obtain⟨t,rfl⟩:=r;rfl
 |flt _=>obtain⟨t,rfl⟩:=r;rfl
 |ref _=>cases r;rfl
 |ty _=>cases r;rfl
theorem aaZ {j pos'}(ha:PE X a ta):PC X .Is a (.Constant .none j pos') (NoD ta):=by
 intro pins s σ H Q I h;refine bp (ha pins s σ H _ I h) λv s1 z'=>?_;obtain⟨x,H1,I1,r1,q1⟩:=z';exact Constant_none (is_none_gen ⟨.bl _,H1,I1,by rw[r1.abO];rfl,q1⟩)
noncomputable def tB (t:TE):TT:=λσ H Q=>t σ H λx H1=>∃c,x=.bl c/\Q c H1
theorem oA {t:TE}(h:PC X op a b t)(h1:behindInMarks op b=false:=by first|exact Cls _ (by decide) (by decide)|rfl):PT X (.Compare a [op] [b] pos) (tB t):=by
 intro pins s σ H Q I hw;refine wpAny_isTrue_Compare1 (bp (h pins s σ H _ I hw) λv s1 h1=>bp h1 λu s2 h2=>bp h2 λc s3 z'=>?_) h1;obtain⟨x,H1,I1,r1,q1⟩:=z';obtain⟨d,rfl,q⟩:=q1
 cases r1
 exact wpAny_truthy_bool ⟨H1,I1,q⟩
theorem cq {t:TE}(h:PE X e t)(he:∀c5,isTrue e X.env c5=(do let v <-c5;standAt e.pos;holding [v] (truthy v)):=by intro _;rfl):PT X e (tB t):=by
 intro pins s σ H Q I hw;refine isTrue_plain (bp (h pins s σ H _ I hw) λv s1 z'=>?_) (he _);obtain⟨x,H1,I1,r1,q1⟩:=z';obtain⟨d,rfl,q⟩:=q1
 cases r1
 exact wpAny_truthy_bool ⟨H1,I1,q⟩
variable {tA OV:TT}{rest:Bo}
noncomputable def abU (t u:TT):TT:=λσ H Q=>t σ H λc H1=>if c=true then u σ H1 Q else Q false H1
noncomputable def abV (t u:TT):TT:=λσ H Q=>t σ H λc H1=>if c=true then Q true H1 else u σ H1 Q
noncomputable def aa3 (t:TT):TT:=λσ H Q=>t σ H λc H1=>Q (!c) H1
theorem aa5 (ha:PT X a tA):PW X (.BoolOp .And [a] pos) tA:=by
 intro wh pins s σ H Q I h;refine isTrue_and (bp (ha pins s σ H Q I h) λc s1 e=>?_)
 cases c with
 |true=>exact isTrue_and_nil e
 |false=>exact e
theorem fe (ha:PT X a tA):PW X (.BoolOp .Or [a] pos) tA:=by
 intro wh pins s σ H Q I h;refine isTrue_or (bp (ha pins s σ H Q I h) λc s1 e=>?_)
 cases c with
 |false=>exact isTrue_or_nil e
 |true=>exact e
theorem aa6 (ha:PT X a tA)(hb:PW X (.BoolOp .And (b::rest) pos) OV):PW X (.BoolOp .And (a::b::rest) pos) (abU tA OV):=by
 intro wh pins s σ H Q I h;refine isTrue_and (bp (ha pins s σ H _ I h) λc s1 z'=>?_);obtain⟨H1,I1,q1⟩:=z'
 cases c with
 |true=>exact hb wh pins s1 σ H1 Q I1 q1
 |false=>exact⟨H1,I1,q1⟩
theorem iA (ha:PT X a tA)(hb:PW X (.BoolOp .Or (b::rest) pos) OV):PW X (.BoolOp .Or (a::b::rest) pos) (abV tA OV):=by
 intro wh pins s σ H Q I h;refine isTrue_or (bp (ha pins s σ H _ I h) λc s1 z'=>?_);obtain⟨H1,I1,q1⟩:=z'
 cases c with
 |true=>exact⟨H1,I1,q1⟩
 |false=>exact hb wh pins s1 σ H1 Q I1 q1
theorem cp (ha:PT X a tA):PT X (.UnaryOp .Not a pos) (aa3 tA):=by
 intro pins s σ H Q I h;exact isTrue_not (ha pins s σ H (λc H1=>Q (!c) H1) I h)
noncomputable def aa7 (ta tb:TE):TE:=λσ H Q=>ta σ H λx H1=>∃c,x=.bl c/\if c=true then tb σ H1 Q else Q (.bl false) H1
noncomputable def aa8 (ta:TE):TE:=λσ H Q=>ta σ H λx H1=>∃c,x=.bl c/\Q (.bl (!c)) H1
theorem iM {op}{t:TE}(h:PE X a t):PE X (.BoolOp op [a] pos) t:=λpins s σ H Q I hw=>BoolOp_one (h pins s σ H Q I hw)
theorem fZ (ha:PE X a ta)(hb:PE X (.BoolOp .And (b::rest) pos) tb):PE X (.BoolOp .And (a::b::rest) pos) (aa7 ta tb):=by
 intro pins s σ H Q I h;refine BoolOp_and (bp (ha pins s σ H _ I h) λv s1 z'=>?_);obtain⟨x,H1,I1,r1,q1⟩:=z';obtain⟨c,rfl,q1⟩:=q1
 cases r1
 refine wpAny_truthy_bool ?_
 cases c with
 |true=>exact hb pins s1 σ H1 Q I1 q1
 |false=>exact⟨.bl false,H1,I1,rfl,q1⟩
theorem aaJ (ha:PE X a ta):PE X (.UnaryOp .Not a pos) (aa8 ta):=by
 intro pins s σ H Q I h;refine UnaryOp_ (bp (ha pins s σ H _ I h) λv s1 z'=>?_);obtain⟨x,H1,I1,r1,q1⟩:=z';obtain⟨c,rfl,q1⟩:=q1
 cases r1
 exact not_of (wpAny_truthy_bool ⟨.bl (!c),H1,I1,rfl,q1⟩)
end
noncomputable def aY (K:PySem.W.Frag)(H:Hp)(a:Addr)(xs:List V):Prop :=
 Rd H a (.lst xs) \/
  ∃(o:Obj)(its:Cm)(n:Nat),K.lookup a=some o/\o.cls=.type "list"/\o.dict=none/\o.data=.seq its n/\its.size<=sizeLine/\aG xs its.toList
noncomputable def bf (K:PySem.W.Frag)(H:Hp)(a:Addr)(xs:List V):Prop :=
 Rd H a (.tup xs) \/
  ∃(o:Obj)(its:Cm)(n:Nat),K.lookup a=some o/\o.cls=.type "tuple"/\o.data=.seq its n/\its.size<=sizeLine/\aG xs its.toList
noncomputable def TmX:Value->Option V
 | .none=>some .non
 | .bool b=>some (.bl b)
 | .int i _=>some (.int i)
 | .str x _=>some (.str x)
 | .bytes b _=>some (.byt b)
 | .float b _=>some (.flt b)
 | .ref a=>some (.ref a)
 | .type n=>some (.ty n)
 |_=>none
theorem aC.abs {x:V}(r:aC x u):TmX u=some x:=by
 cases x with
 |non=>cases r;rfl
 |bl _=>cases r;rfl
 |int _=>obtain⟨t,rfl⟩:=r;rfl
 |str _=>obtain⟨t,rfl⟩:=r;rfl
 |byt _=>obtain⟨t,rfl⟩:=r;rfl
 |flt _=>obtain⟨t,rfl⟩:=r;rfl
 |ref _=>cases r;rfl
 |ty _=>cases r;rfl
variable {y:V}
theorem aC.inj {x:V}(r:aC x u)(q:aC y u):x=y:=Option.some.inj (r.abs.symm.trans q.abs)
theorem aG.inj:∀{xs ys:List V}{us:qw},aG xs us->aG ys us->xs=ys
 |_,_,_,.nil,.nil=>rfl
 |_,_,_,.cons r t,.cons r' t'=>by rw[r.inj r',aG.inj t t']
variable {K:PySem.W.Frag}
section
variable {X:Cx}{pins:List (Addr×Obj)}{σ:St}{H:Hp}{s:Fp}{a:Addr}{xs ys:List V}
theorem aY.of (h:H a=some (.lst xs)):aY K H a xs:=.inl (.inl h)
theorem bf.of (h:H a=some (.tup xs)):bf K H a xs:=.inl (.inl h)
theorem Inv.list (I:Inv X pins σ H s)(h:aY X.K H a xs):∃its:List Value,aG xs its/\PlainL s.heap a its.toArray/\xs.length<=sizeLine:=by
 rcases h with h|⟨o,its,n,hk,hc,hd,hs,hz,r⟩
 ·obtain⟨z,its,n,r,e⟩:=h.ok I.hok;exact⟨its,r,⟨_,n,e,rfl,rfl,rfl⟩,z⟩
 ·refine⟨its.toList,r,⟨o,n,I.kIn a o hk,hc,hd,by simpa using hs⟩,?_⟩;have e:=r.length;simp only[Array.length_toList] at e;omega
theorem Inv.tuple (I:Inv X pins σ H s)(h:bf X.K H a xs):∃its:List Value,aG xs its/\IsTup s.heap a its.toArray/\xs.length<=sizeLine:=by
 rcases h with h|⟨o,its,n,hk,hc,hs,hz,r⟩
 ·obtain⟨z,its,r,p⟩:=h.ok I.hok;exact⟨its,r,p,z⟩
 ·refine⟨its.toList,r,⟨o,I.kIn a o hk,hc,n,by simpa using hs⟩,?_⟩;have e:=r.length;simp only[Array.length_toList] at e;omega
theorem Inv.aa9 (I:Inv X pins σ H s)(h:aY X.K H a xs)(h':aY X.K H a ys):xs=ys:=by
 obtain⟨its,r,⟨o,n,e,_,_,d⟩,_⟩:=I.list h;obtain⟨its',r',⟨o',n',e',_,_,d'⟩,_⟩:=I.list h';rw[e] at e';cases e';rw[d] at d'
 injection d' with d1 _
 have:its=its':=by simpa using congrArg Array.toList d1
 subst this;exact r.inj r'
theorem Inv.aaT (I:Inv X pins σ H s)(h:bf X.K H a xs)(h':bf X.K H a ys):xs=ys:=by
 obtain⟨its,r,⟨o,e,_,n,d⟩,_⟩:=I.tuple h;obtain⟨its',r',⟨o',e',_,n',d'⟩,_⟩:=I.tuple h';rw[e] at e';cases e';rw[d] at d'
 injection d' with d1 _
 have:its=its':=by simpa using congrArg Array.toList d1
 subst this;exact r.inj r'
end
noncomputable abbrev Cx.abe (X:Cx)(E:yg):Cx:={X with xe:=E}
noncomputable abbrev Cx.nox (X:Cx):Cx:=X.abe λ_ _=>False
theorem Cx.Ok.abe (ok:X.Ok)(E:yg):(X.abe E).Ok :=
 ⟨ok.mod,ok.kind,ok.glob,ok.blt,ok.above,ok.inj,ok.has,ok.cab,ok.hd,ok.frames,ok.stk,ok.exf,ok.bs,ok.bsz,ok.abo,ok.abx,ok.aaF,ok.frf⟩
theorem Cx.Ok.aaS {E:yg}(ok:(X.abe E).Ok):X.Ok :=
 ⟨ok.mod,ok.kind,ok.glob,ok.blt,ok.above,ok.inj,ok.has,ok.cab,ok.hd,ok.frames,ok.stk,ok.exf,ok.bs,ok.bsz,ok.abo,ok.abx,ok.aaF,ok.frf⟩
section
variable {X:Cx}{pins:List (Addr×Obj)}{σ:St}{H:Hp}{s:Fp}{E:yg}
theorem Inv.abe (I:Inv X pins σ H s)(E:yg):Inv (X.abe E) pins σ H s:=⟨I.ok.abe E,I.os,I.bare,I.base,I.loc,I.cell,I.free,I.aaz,I.pin,I.hok,I.len⟩
theorem Inv.aaS (I:Inv (X.abe E) pins σ H s):Inv X pins σ H s:=⟨I.ok.aaS,I.os,I.bare,I.base,I.loc,I.cell,I.free,I.aaz,I.pin,I.hok,I.len⟩
theorem SP.aaS {D:Ends}{f:Flow}{s':Fp}(h:SP (X.abe E) pins D f s'):SP X pins D f s':=by
 cases f with
 |next=>obtain⟨σ',H',I,q⟩:=h;exact⟨σ',H',I.aaS,q⟩
 |brk=>obtain⟨σ',H',I,q⟩:=h;exact⟨σ',H',I.aaS,q⟩
 |cont=>obtain⟨σ',H',I,q⟩:=h;exact⟨σ',H',I.aaS,q⟩
 |ret u=>obtain⟨v,σ',H',I,r,q⟩:=h;exact⟨v,σ',H',I.aaS,r,q⟩
theorem iE.nox {st:rY}{t:TS}(h:iE X.nox st t):iE X st t:=λpins s σ H D I hw =>
 wpAny_mono (h pins s σ H D (I.abe _) hw) (λ_ _ q=>q.aaS) λ_ _ z=>False.elim z
end
section
variable {X:Cx}{st:Stmt}{rest:rY}{t u:TS}{e:Expr}{te:TE}{pos:Pos}
noncomputable def M1:TS:=λD σ H=>D.nx σ H
noncomputable def C7 (t u:TS):TS:=λD σ H=>t {D with nx:=u D} σ H
theorem aJ:iE X [] M1:=λ_ _ σ H _ I h=>wpAny_execs_nil ⟨σ,H,I,h⟩
theorem aj (h1:PS X st t)(h2:iE X rest u):iE X (st::rest) (C7 t u):=by
 intro pins s σ H D I h;refine wpAny_execs_cons (bp (h1 pins s σ H {D with nx:=u D} I h) λf s1 q=>?_)
 cases f with
 |next =>
  obtain⟨σ',H',I',q⟩:=q;exact h2 pins s1 σ' H' D I' q
 |ret v=>exact q
 |brk=>exact q
 |cont=>exact q
theorem ar (h1:PS X st t):iE X [st] t:=by
 intro pins s σ H D I h;refine wpAny_execs_cons (bp (h1 pins s σ H D I h) λf s1 q=>?_)
 cases f with
 |next=>exact wpAny_execs_nil q
 |ret v=>exact q
 |brk=>exact q
 |cont=>exact q
theorem Inv.quiet (I:Inv X pins σ H s):interactive X.env=false:=by simp[interactive,I.ok.kind]
noncomputable def abM (te:TE):TS:=λD σ H=>te σ H λ_ H1=>D.nx σ H1
theorem jy (he:PE X e te)(hs:swapsWith e none pos.line X.env=pure false:=by rfl):PS X (.Expr e pos) (abM te):=by
 intro pins s σ H D I h;exact wpAny_Expr_any (bp (he pins s σ H _ I h) λv s1 ⟨x,H1,I1,r1,q1⟩=>⟨σ,H1,I1,q1⟩) I.quiet hs
noncomputable def abf (te:TE):TS:=λD σ H=>te σ H D.rt
theorem aB (he:PE X e te):PS X (.Return (some e) pos) (abf te):=by
 intro pins s σ H D I h;exact wpAny_Return_some (bp (he pins s σ H _ I h) λv s1 ⟨x,H1,I1,r1,q1⟩=>⟨x,σ,H1,I1,r1,q1⟩)
noncomputable def DS (c:TT)(t u:TS):TS:=λD σ H=>c σ H λb H1=>if b=true then t D σ H1 else u D σ H1
theorem bg {c:Expr}{a b:rY}{tc:TT}(hc:PT X c tc)(ha:iE X a t)(hb:iE X b u):PS X (.If c a b pos) (DS tc t u):=by
 intro pins s σ H D I h;refine wpAny_If (bp (hc pins s σ H _ I h) λd s1 z'=>?_);obtain⟨H1,I1,q1⟩:=z'
 cases d with
 |true=>exact ha pins s1 σ H1 D I1 q1
 |false=>exact hb pins s1 σ H1 D I1 q1
noncomputable def BF:TS:=λ_ _ _=>False
theorem pM:PS X st BF:=λ_ _ _ _ _ _ h=>h.elim
theorem abW {VS:rY}:iE X VS BF:=λ_ _ _ _ _ _ h=>h.elim
end
noncomputable abbrev TG:=V->St->Hp->(St->Hp->Prop)->Prop
noncomputable abbrev EH:=List V->St->Hp->(St->Hp->Prop)->Prop
noncomputable def PG (X:Cx)(target:Expr)(t:TG):Prop :=
 ∀(pins:List (Addr×Obj))(s:Fp)(σ:St)(H:Hp)(v:V)(u:Value)(Q:St->Hp->Prop),Inv X pins σ H s->aC v u->t v σ H Q →
  wpAny (model X.prog X.w) X.A (assign target X.env u) (λ_ s'=>∃σ' H',Inv X pins σ' H' s'/\Q σ' H') X.xe s
noncomputable def DZ (X:Cx)(ts:Bo)(t:EH):Prop :=
 ∀(pins:List (Addr×Obj))(s:Fp)(σ:St)(H:Hp)(vs:List V)(us:qw)(Q:St->Hp->Prop),Inv X pins σ H s->aG vs us->t vs σ H Q →
  wpAny (model X.prog X.w) X.A (assignInOrder ((assignEach ts X.env).map (·.2)) us) (λ_ s'=>∃σ' H',Inv X pins σ' H' s'/\Q σ' H') X.xe s
noncomputable abbrev CA:=V->V->V->Hp->(Hp->Prop)->Prop
noncomputable def Dr (X:Cx)(t:CA):Prop :=
 ∀(pins:List (Addr×Obj))(s:Fp)(σ:St)(H:Hp)(o i v:V)(ov iv u:Value)(Q:Hp->Prop),Inv X pins σ H s->aC o ov->aC i iv->aC v u->t o i v H Q →
  wpAny (model X.prog X.w) X.A (setItem ov iv u) (λ_ s'=>∃H',Inv X pins σ H' s'/\Q H') X.xe s
variable {k:Nat}{tg:Expr}{g:TG}{body:rY}{tb:TS}
section
variable {X:Cx}{pos:Pos}
noncomputable def bz (i:Nat):TG:=λv σ H Q=>Q (σ.set i (some v)) H
theorem aE {i:Nat}(hN:X.N.Nodup)(hi:X.N[i]?=some x)(hx:DD X.env.scope x)(hf:X.fn x=true\/X.env.scope.names.lookup x=some .local:=by first|exact .inl rfl|exact .inr rfl|assumption):PG X (.Name x pos) (bz i):=by
 intro pins s σ H v u Q I r h;exact wpAny_assign_Name (fJ I hN hi hx r (λs' I'=>⟨_,H,I',h⟩) hf)
noncomputable def Ek:EH:=λvs σ H Q=>vs=[]/\Q σ H
noncomputable def ck (t:TG)(u:EH):EH:=λvs σ H Q=>∃v r,vs=v::r/\t v σ H λσ' H'=>u r σ' H' Q
theorem bX:DZ X [] Ek:=by
 intro pins s σ H vs us Q I r h;obtain⟨e,h⟩:=h;subst e
 cases r
 exact assignInOrder_nil ⟨σ,H,I,h⟩
theorem aI {es:Bo}{t:TG}{u:EH}(h1:PG X e t)(h2:DZ X es u)
 (hs:(assignEach (e::es) X.env).map (·.2)=assign e X.env::(assignEach es X.env).map (·.2):=by rfl):DZ X (e::es) (ck t u):=by
 intro pins s σ H vs us Q I r h;obtain⟨v,vr,e1,h⟩:=h;subst e1
 cases r with
 |cons r rr =>
  rw[hs];refine assignInOrder_cons (bp (h1 pins s σ H _ _ _ I r h) λ_ s1 z'=>?_);obtain⟨σ1,H1,I1,q1⟩:=z';exact h2 pins s1 σ1 H1 _ _ Q I1 rr q1
noncomputable def ji (K:PySem.W.Frag)(n:Nat)(t:EH):TG:=λv σ H Q=>∃a xs,v=.ref a/\bf K H a xs/\xs.length=n/\t xs σ H Q
theorem cK {es:Bo}{t:EH}{n:Nat}(hc:X.calm=true)(h:DZ X es t)
 (hn:(assignEach es X.env).length=n:=by rfl)(HI:(assignEach es X.env).findIdx? (·.1)=none:=by rfl):PG X (.Tuple es k pos) (ji X.K n t):=by
 intro pins s σ H v u Q I r hw;obtain⟨a,xs,e1,hq,hl,hw⟩:=hw;subst e1
 cases r
 obtain⟨its,rv,ht,hz⟩:=I.tuple hq;refine assign_Tuple_tuple (I.ok.hd hc) ht (by simp[hn,<-hl,rv.length]) HI λh' hx=>?_;have I1:Inv X pins σ H {s with heap:=h'}:=I.kept (t':=s.toks) λb o e=>hx b o (Nat.ne_of_lt (Heap.lt_size e)) e;exact h pins _ σ H xs _ Q I1 (by simpa using rv) hw
noncomputable def abi (to ti:TE)(t:CA):TG:=λv σ H Q=>to σ H λo H1=>ti σ H1 λi H2=>t o i v H2 λH3=>Q σ H3
theorem sh {o i:Expr}{to ti:TE}{t:CA}(ho:PE X o to)(hi:PE X i ti)(hs:Dr X t)
 (ha:∀v,assign (.Subscript o i pos) X.env v=(do
  let ov <-holding [v] (eval o X.env)
  let iv <-holding [v,ov] (eval i X.env)
  standAt pos
  holding [v,ov,iv] (setItem ov iv v)
  release [v,ov,iv] []):=by intro _;rfl):PG X (.Subscript o i pos) (abi to ti t):=by
 intro pins s σ H v u Q I r h;rw[ha];refine wpAny_bind (wpAny_holding (bp (ho pins s σ H _ I h) λov s1 z'=>?_));obtain⟨x,H1,I1,r1,q1⟩:=z';refine wpAny_bind (wpAny_holding (bp (hi pins s1 σ H1 _ I1 q1) λiv s2 z'=>?_));obtain⟨y,H2,I2,r2,q2⟩:=z';refine wpAny_bind (wpAny_standAt (wpAny_bind (wpAny_holding (bp (hs pins s2 σ H2 x y v ov iv u _ I2 r1 r2 r q2) λ_ s3 z'=>?_))));obtain⟨H3,I3,q3⟩:=z';exact wpAny_release ⟨σ,H3,I3,q3⟩
noncomputable def zD (te:TE)(g:TG):TS:=λD σ H=>te σ H λx H1=>g x σ H1 D.nx
theorem oq {te:TE}(he:PE X e te)(hg:PG X tg g)(hs:swapsWithSole [tg] e pos.line X.env=pure false:=by rfl)(hw:swappedStores [tg] e X.env=pure none:=by rfl)
 (h1:(assignEach [tg] X.env).map (·.2)=[assign tg X.env]:=by rfl):PS X (.Assign [tg] e pos) (zD te g):=by
 intro pins s σ H D I h;refine wpAny_Assign_stores (bp (he pins s σ H _ I h) λv s1 z'=>?_) hs hw;obtain⟨x,H1,I1,r1,q1⟩:=z';rw[h1];exact bp (hg pins s1 σ H1 x v _ I1 r1 q1) λ_ s2 q=>q
theorem aK {i:Nat}{x:Str}{e:Expr}{te:TE}{pos':Pos}(hN:X.N.Nodup)(hi:X.N[i]?=some x)(hx:DD X.env.scope x)(he:PE X e te)(hs:swapsWith e (some (.Name x pos')) pos.line X.env=pure false:=by rfl)(hf:X.fn x=true\/X.env.scope.names.lookup x=some .local:=by first|exact .inl rfl|exact .inr rfl|assumption):
 PS X (.Assign [.Name x pos'] e pos) (zD te (bz i)):=by
 intro pins s σ H D I h;refine wpAny_Assign_Name (bp (he pins s σ H _ I h) λv s1 z'=>?_) hs;obtain⟨y,H1,I1,r1,q1⟩:=z';exact fJ I1 hN hi hx r1 (λs2 I2=>⟨_,H1,I2,q1⟩) hf
noncomputable def aaQ (i j:Nat)(ta:TA):TS:=λD σ H=>ta σ H λvs H1=>∃v w,vs=[v,w]/\D.nx ((σ.set i (some v)).set j (some w)) H1
theorem iQ {i j:Nat}{y:Str}{a b:Expr}{ta:TA}{px py pt:Pos} {kt k2 P5}(hc:X.calm=true)(hN:X.N.Nodup)(hi:X.N[i]?=some x)(hj:X.N[j]?=some y)(HJ:i≠j)
 (hx:X.env.scope.names.lookup x=some .local)(hy:X.env.scope.names.lookup y=some .local)(ha:PA X [a,b] ta)
 (hw:swappedStores [.Tuple [.Name x px,.Name y py] kt pt] (.Tuple [a,b] k2 P5) X.env=pure (some [x,y]))
 (hs:swapsWithSole [.Tuple [.Name x px,.Name y py] kt pt] (.Tuple [a,b] k2 P5) pos.line X.env=pure false:=by rfl):
 PS X (.Assign [.Tuple [.Name x px,.Name y py] kt pt] (.Tuple [a,b] k2 P5) pos) (aaQ i j ta):=by
 intro pins s σ H D I h;rw[exec_Assign_arm];refine wpAny_bind (wpAny_standAt ?_);rw[hs];refine wpAny_bind (wpAny_pure ?_);rw[if_neg (by decide)];refine wpAny_bind (Tuple_ (bp (ha _ pins s σ H _ I h) λus s1 z'=>?_));obtain⟨vs,H1,I1,r1,q1⟩:=z';obtain⟨v,w,e1,q1⟩:=q1;subst e1
 obtain⟨u1,u2,rfl,rv,GI⟩:∃u1 u2,us=[u1,u2]/\aC v u1/\aC w u2:=by
  cases r1 with
  |cons p q =>
   cases q with
   |cons p' q' =>
    cases q'
    exact⟨_,_,rfl,p,p'⟩
 refine wpAny_newObj_type ?_ BJ;have I2:Inv X pins σ H1 {s1 with heap:=s1.heap.push {cls:=.type "tuple",data:=.seq [u1,u2].toArray} }:=I1.kept (t':=s1.toks) λb o e=>Heap.get?_push_of_some _ e;rw[hw];refine wpAny_bind (wpAny_pure ?_);show wpAny (model X.prog X.w) X.A (do rule "assign.swapped-stores";let items <-unpackItems (.ref s1.heap.objs.size) 2 none;assignInOrder [λv=>bindName X.env y v,λv=>bindName X.env x v] items.reverse;pure Flow.next) _ _ _;refine wpAny_bind (wpAny_rule (wpAny_bind (unpackItems_tuple (items:=#[u1,u2]) (I.ok.hd hc) (IsTup.new s1.heap _) λh' KD=>?_)));have I3:=I2.kept (h':=h') (t':=s1.toks) λb o e=>KD b o (Nat.ne_of_lt (Heap.lt_size e)) e;show wpAny _ _ (assignInOrder [λv=>bindName X.env y v,λv=>bindName X.env x v] [u2,u1]>>=λ_=>pure Flow.next) _ _ _;refine wpAny_bind (assignInOrder_cons (wpAny_bindName (fJ I3 hN hj (.inl hy) GI (λs2 I4=>?_) (.inr hy))));refine assignInOrder_cons (wpAny_bindName (fJ I4 hN hi (.inl hx) rv (λs3 I5=>assignInOrder_nil (wpAny_pure ?_)) (.inr hx)));rw[List.set_comm _ _ (Ne.symm HJ)] at I5;exact⟨_,H1,I5,q1⟩
noncomputable def Gth (c:TT)(tb:TS):TS:=λD σ H=>∃W:Nat->St->Hp->Prop,(∃m,W m σ H)/\∀m σ H,W m σ H →
 c σ H λb H1=>if b=true then ∃N:St->Hp->Prop,(∀σ' H',N σ' H'->∃m',m'<m/\W m' σ' H')/\tb {D with nx:=N,ct:=N,bk:=D.nx} σ H1 else D.nx σ H1
theorem jW {c:Expr}{tc:TT}(hp:PassesOwn (model X.prog X.w) X.A X.env X.xe)(hc:PT X c tc)(hb:iE X body tb):PS X (.While c body [] pos) (Gth tc tb):=by
 intro pins s σ H D I h;obtain⟨W,⟨m0,w0⟩,turn⟩:=h;refine wpAny_While (codeAny_whileLoop (λn s'=>∃σ' H',Inv X pins σ' H' s'/\W n σ' H') ?_ m0 ⟨σ,H,I,w0⟩);rintro n s1 ⟨σ1,H1,I1,w1⟩;refine wpAny_passesOwn hp (bp (hc pins s1 σ1 H1 _ I1 (turn n σ1 H1 w1)) λb s2 z'=>?_);obtain⟨H2,I2,q2⟩:=z'
 cases b with
 |true =>
  obtain⟨N,hN,q2⟩:=q2;rw[if_pos rfl];refine wpAny_passesOwn hp (bp (hb pins s2 σ1 H2 _ I2 q2) λf s3 q3=>?_)
  cases f with
  |next =>
   obtain⟨σ3,H3,I3,n3⟩:=q3;obtain⟨m',hm,w3⟩:=hN σ3 H3 n3;exact⟨m',hm,σ3,H3,I3,w3⟩
  |cont =>
   obtain⟨σ3,H3,I3,n3⟩:=q3;obtain⟨m',hm,w3⟩:=hN σ3 H3 n3;exact⟨m',hm,σ3,H3,I3,w3⟩
  |brk=>exact q3
  |ret v=>exact q3
 |false =>
  rw[if_neg Bool.false_ne_true];exact wpAny_execs_nil ⟨σ1,H2,I2,q2⟩
end
structure It where
 go:Nat->Hp->Prop
 yld:Nat->Hp->V->Hp->Prop
 stop:Nat->Hp->Prop
noncomputable def cf (X:Cx)(pins:List (Addr×Obj))(H:Hp)(b:Addr):Prop :=
 H b=none/\b≠X.env.locals/\b∉X.fs/\(b∈X.ex\/X.s₀.heap.objs.size<=b)/\(∀x c,X.env.cells.lookup x=some c->c≠b)/\∀p∈X.pn++pins,p.1≠b
variable {H':Hp}
theorem Inv.aa4 (I:Inv X pins σ H s)(hb:s.heap.objs.size<=b)(hn:H' b=none):cf X pins H' b:=by
 refine⟨hn,Nat.ne_of_gt (Nat.lt_of_lt_of_le I.lt hb),I.ab7 hb,.inr (Nat.le_trans I.sz hb),λx c e z=>?_,λp hp z=>?_⟩
 ·obtain⟨v,q⟩:=I.cell x c e;exact absurd (Nat.lt_of_lt_of_le q.lt (by rw[z];exact hb)) (Nat.lt_irrefl _)
 ·exact absurd (Nat.lt_of_lt_of_le (Heap.lt_size (I.pin p hp).1) (by rw[z];exact hb)) (Nat.lt_irrefl _)
structure Turn (P:vQ)(w:World)(K:PySem.W.Frag)(tg:Expr)(J:It)(fp:List Addr)(it:Addr)(tn:Nat->Heap->Prop):Prop where
 mem:it∈fp
 obj:∀i h,tn i h->∀b∈fp,∃o,h.get? b=some o/\∀v,o.data≠.cell v
 keep:∀i h h',tn i h->(∀b∈fp,∀o,h.get? b=some o->h'.get? b=some o)->tn i h'
 item:∀(X:Cx),X.prog=P->X.w=w->X.K=K->X.calm=true->∀(i:Nat)(pins:List (Addr×Obj))(s:Fp)(σ:St)(H:Hp)(E:yg),Inv X pins σ H s->(∀b∈fp,cf X pins H b)->tn i s.heap->J.go i H →
  wpAny (model P w) X.A (pyNext (.ref it)) (λr s1=>∃u,r=some u /\
   wpAny (model P w) X.A (letOwnedTupleGo tg (.ref it) u) (λ_ s2=>∃x H',Inv X pins σ H' s2/\aC x u/\J.yld i H x H'/\tn (i+1) s2.heap/\∀b∈fp,H' b=none) E s1) E s
 done:∀(X:Cx),X.prog=P->X.w=w->X.K=K->X.calm=true->∀(i:Nat)(pins:List (Addr×Obj))(s:Fp)(σ:St)(H:Hp)(E:yg),Inv X pins σ H s->(∀b∈fp,cf X pins H b)->tn i s.heap->J.stop i H →
  wpAny (model P w) X.A (pyNext (.ref it)) (λr s1=>r=none/\Inv X pins σ H s1) E s
 self:∀(A:Around)(i:Nat)(s:Fp)(Q:yg)(E:yg),tn i s.heap->Q (.ref it) s->wpAny (model P w) A (pyIter (.ref it)) Q E s
noncomputable abbrev TI:=St->Hp->(It->Hp->Prop)->Prop
noncomputable def E3 (X:Cx)(pins:List (Addr×Obj))(σ:St)(tg:Expr)(R:It->Hp->Prop)(KG:Value)(s2:Fp):Prop :=
 ∃(it:Addr)(fp:List Addr)(tn:Nat->Heap->Prop)(J:It)(H':Hp),KG=.ref it/\Inv X pins σ H' s2/\Turn X.prog X.w X.K tg J fp it tn/\tn 0 s2.heap/\(∀b∈fp,cf X pins H' b)/\R J H'
noncomputable def PI (X:Cx)(tg iter:Expr)(wi:TI):Prop :=
 ∀(pins:List (Addr×Obj))(s:Fp)(σ:St)(H:Hp)(R:It->Hp->Prop),Inv X pins σ H s->wi σ H R →
  wpAny (model X.prog X.w) X.A (eval iter X.env) (λv s1=>wpAny (model X.prog X.w) X.A (pyIter v) (E3 X pins σ tg R) X.xe s1) X.xe s
theorem uf {E:yg}{s:Fp}{it:Addr}{o:Obj}{n:String}{vs:Cm}{Q:Unit->Shared->Prop}(ho:s.heap.get? it=some o)(hc:o.cls=.type n)(hd:o.data=.fields vs)
 (hn:["enumerate","zip","dict_itemiterator","dict_reverseitemiterator","odict_iterator","itertools.zip_longest","itertools.pairwise"].contains n=false)(hQ:Q () s):wpAny M A (letOwnedTupleGo tg (.ref it) u) Q E s:=by
 unfold letOwnedTupleGo
 cases tg <;> first
  |exact wpAny_pure hQ
  |(cases u <;> first
   |exact wpAny_pure hQ
   |(refine wpAny_bind (wpAny_load ho ?_)
     rw[hc,hd];show wpAny M A (if(["enumerate","zip","dict_itemiterator","dict_reverseitemiterator","odict_iterator","itertools.zip_longest","itertools.pairwise"].contains n&&vs[0]?==some (rawInt _))=true then _ else _) Q E s;rw[if_neg (by intro h;rw[hn,Bool.false_and] at h;cases h)]
     exact wpAny_pure hQ))
noncomputable def BI (K:PySem.W.Frag)(a:Addr):It :=
 ⟨λi H=>∃xs x,aY K H a xs/\xs[i]?=some x,λi H x H'=>H'=H/\∀xs,aY K H a xs->xs[i]?=some x,λi H=>∃xs,aY K H a xs/\xs.length<=i⟩
noncomputable def E7 (K:PySem.W.Frag)(a:Addr):It :=
 ⟨λi H=>∃xs x,bf K H a xs/\xs[i]?=some x,λi H x H'=>H'=H/\∀xs,bf K H a xs->xs[i]?=some x,λi H=>∃xs,bf K H a xs/\xs.length<=i⟩
noncomputable def CK (lo:Int)(n:Nat):It:=⟨λi _=>i<n,λi H x H'=>H'=H/\x=.int (lo+i),λi _=>n<=i⟩
theorem aaX (a it:Addr):Turn P w K tg (BI K a) [it] it (λi h=>h.IsListIter it a i) where
 mem:=by simp
 obj:=λi h st b hb=>by
  have e:b=it:=by simpa using hb
  subst e;obtain⟨o,e,c,d⟩:=st;exact⟨o,e,λv z=>by rw[d] at z;cases z⟩
 keep:=λi h h' st k=>st.at λo e=>k it (by simp) o e
 item:=by
  intro X hP hw hK hc i pins s σ H E I hf st hg;subst hP hw hK;obtain⟨xs,x,hq,hx⟩:=hg;obtain⟨its,rv,p,hz⟩:=I.list hq;obtain⟨u,hu,ru⟩:=rv.get hx;obtain⟨f0,f1,f2,f3,f4,f5⟩:=hf it (by simp);refine wpAny_pyNext_list_item st p.isList (x:=u) (by simpa using hu) λh' Gj sb=>?_;have I1:Inv X pins σ H {s with heap:=h'}:=I.turned (t':=s.toks) (λb o hb e=>(sb.2 b hb).trans e) f0 f1 f3 f4 f5;obtain⟨o,e,c,d⟩:=id Gj;exact⟨u,rfl,uf (s:={s with heap:=h'}) e c d (by decide) ⟨x,H,I1,ru,⟨rfl,λys hy=>by rw[I.aa9 hy hq];exact hx⟩,Gj,λb hb=>(hf b hb).1⟩⟩
 done:=by
  intro X hP hw hK hc i pins s σ H E I hf st hg;subst hP hw hK;obtain⟨xs,hq,hx⟩:=hg;obtain⟨its,rv,p,hz⟩:=I.list hq;obtain⟨f0,f1,f2,f3,f4,f5⟩:=hf it (by simp);have hl:=rv.length;exact wpAny_pyNext_list_end (I.ok.hd hc) st p.isList (by simp;omega) λh' eb=>⟨rfl,I.turned (t':=s.toks) (λb o hb e=>eb b o hb e) f0 f1 f3 f4 f5⟩
 self:=λ_ _ _ _ _ st h=>wpAny_pyIter_listiter st h
theorem abw (a it:Addr):Turn P w K tg (E7 K a) [it] it (λi h=>h.IsTupleIter it a i) where
 mem:=by simp
 obj:=λi h st b hb=>by
  have e:b=it:=by simpa using hb
  subst e;obtain⟨o,e,c,d⟩:=st;exact⟨o,e,λv z=>by rw[d] at z;cases z⟩
 keep:=λi h h' st k=>st.at λo e=>k it (by simp) o e
 item:=by
  intro X hP hw hK hc i pins s σ H E I hf st hg;subst hP hw hK;obtain⟨xs,x,hq,hx⟩:=hg;obtain⟨its,rv,p,hz⟩:=I.tuple hq;obtain⟨u,hu,ru⟩:=rv.get hx;obtain⟨f0,f1,f2,f3,f4,f5⟩:=hf it (by simp);refine wpAny_pyNext_tuple_item st (show s.heap.IsTuple a its.toArray from p) (x:=u) (by simpa using hu) λh' Gj sb=>?_;have I1:Inv X pins σ H {s with heap:=h'}:=I.turned (t':=s.toks) (λb o hb e=>(sb.2 b hb).trans e) f0 f1 f3 f4 f5;obtain⟨o,e,c,d⟩:=id Gj;exact⟨u,rfl,uf (s:={s with heap:=h'}) e c d (by decide) ⟨x,H,I1,ru,⟨rfl,λys hy=>by rw[I.aaT hy hq];exact hx⟩,Gj,λb hb=>(hf b hb).1⟩⟩
 done:=by
  intro X hP hw hK hc i pins s σ H E I hf st hg;subst hP hw hK;obtain⟨xs,hq,hx⟩:=hg;obtain⟨its,rv,p,hz⟩:=I.tuple hq;obtain⟨f0,f1,f2,f3,f4,f5⟩:=hf it (by simp);have hl:=rv.length;exact wpAny_pyNext_tuple_end (I.ok.hd hc) st (show s.heap.IsTuple a its.toArray from p) (by simp;omega) λh' eb=>⟨rfl,I.turned (t':=s.toks) (λb o hb e=>eb b o hb e) f0 f1 f3 f4 f5⟩
 self:=λ_ _ _ _ _ st h=>wpAny_pyIter_tupleiter st h
theorem abX (it:Addr)(lo:Int)(n:Nat):Turn P w K tg (CK lo n) [it] it (λi h=>IsRangeIter h it (lo+(i:Nat)*1) ((n:Int)-(i:Nat)) 1) where
 mem:=by simp
 obj:=λi h st b hb=>by
  have e:b=it:=by simpa using hb
  subst e
  exact⟨_,st,λv z=>by
   have z':Data.fields _=Data.cell v:=z
   cases z'⟩
 keep:=λi h h' st k=>k it (by simp) _ st
 item:=by
  intro X hP hw hK hc i pins s σ H E I hf st hg;subst hP hw hK;obtain⟨f0,f1,f2,f3,f4,f5⟩:=hf it (by simp);have W:=Walks.range (prog:=X.prog) (w:=X.w) (I.ok.hd hc) it lo 1 n;refine W.item i s _ _ hg st λv h' tk hv Gj kk=>?_;obtain⟨t,rfl⟩:=hv;have I1:Inv X pins σ H {s with heap:=h',toks:=tk}:=I.turned (λb o hb e=>kk b o (by simpa using hb) e) f0 f1 f3 f4 f5;refine⟨_,rfl,uf (s:={s with heap:=h',toks:=tk}) (n:="range_iterator") Gj rfl rfl (by decide) ⟨.int (lo+i),H,I1,⟨t,?_⟩,⟨rfl,rfl⟩,Gj,λb hb=>(hf b hb).1⟩⟩;rw[Int.mul_one]
 done:=by
  intro X hP hw hK hc i pins s σ H E I hf st hg;subst hP hw hK;obtain⟨f0,f1,f2,f3,f4,f5⟩:=hf it (by simp);exact wpAny_pyNext_range_end (I.ok.hd hc) st (by have:n<=i:=hg;omega) λh' eb=>⟨rfl,I.turned (t':=s.toks) (λb o hb e=>eb b o hb e) f0 f1 f3 f4 f5⟩
 self:=λ_ _ _ _ _ st h=>wpAny_pyIter_rangeiter st h
variable {pos:Pos}{fp:List Addr}
section
variable {X:Cx}{tg:Expr}
noncomputable def AR (K:PySem.W.Frag)(tl:TE):TI:=λσ H R=>tl σ H λx H1=>∃a,x=.ref a/\(∃xs,aY K H1 a xs)/\R (BI K a) H1
noncomputable def abm (K:PySem.W.Frag)(tl:TE):TI:=λσ H R=>tl σ H λx H1=>∃a,x=.ref a/\(∃xs,bf K H1 a xs)/\R (E7 K a) H1
theorem bY {l:Expr}{tl:TE}(hl:PE X l tl):PI X tg l (AR X.K tl):=by
 intro pins s σ H R I h;refine bp (hl pins s σ H _ I h) λv s1 z'=>?_;obtain⟨x,H1,I1,r1,q1⟩:=z';obtain⟨a,e,⟨xs,hq⟩,q⟩:=q1;subst e
 cases r1
 obtain⟨its,rv,p,hz⟩:=I1.list hq;refine wpAny_pyIter_list p.isList ?_;refine⟨s1.heap.objs.size,[s1.heap.objs.size],_,_,H1,rfl,I1.kept (t':=s1.toks) λb o e=>Heap.get?_push_of_some _ e,aaX a _,⟨_,Heap.get?_push_size _ rfl,rfl,rfl⟩,λb hb=>?_,q⟩
 have e:b=s1.heap.objs.size:=by simpa using hb
 subst e;exact I1.aa4 (Nat.le_refl _) (I1.hok.fresh (Nat.le_refl _))
theorem ab0 {l:Expr}{tl:TE}(hl:PE X l tl):PI X tg l (abm X.K tl):=by
 intro pins s σ H R I h;refine bp (hl pins s σ H _ I h) λv s1 z'=>?_;obtain⟨x,H1,I1,r1,q1⟩:=z';obtain⟨a,e,⟨xs,hq⟩,q⟩:=q1;subst e
 cases r1
 obtain⟨its,rv,p,hz⟩:=I1.tuple hq;refine wpAny_pyIter_tuple (show s1.heap.IsTuple a its.toArray from p) ?_;refine⟨s1.heap.objs.size,[s1.heap.objs.size],_,_,H1,rfl,I1.kept (t':=s1.toks) λb o e=>Heap.get?_push_of_some _ e,abw a _,⟨_,Heap.get?_push_size _ rfl,rfl,rfl⟩,λb hb=>?_,q⟩
 have e:b=s1.heap.objs.size:=by simpa using hb
 subst e;exact I1.aa4 (Nat.le_refl _) (I1.hok.fresh (Nat.le_refl _))
theorem ab2 {R:It->Hp->Prop}{E:yg}{lo hi:Int}{t u v:Tok}{tk:Nat}(I:Inv X pins σ H s)(h1:-(2^62)<=lo)(h2:lo<2^62)(h3:-(2^62)<=hi)(h4:hi<2^62)
 (q:R (CK lo (hi-lo).toNat) H):wpAny (model X.prog X.w) X.A (pyIter (.ref s.heap.objs.size)) (E3 X pins σ tg R) E {s with heap:=s.heap.push {cls:=.type "range",data:=.fields #[.int lo t,.int hi u,.int 1 v]},toks:=tk}:=by
 refine wpAny_pyIter_range (IsRange.new ..) (small_one h1 h2 h3 h4) ?_;have I1:Inv X pins σ H {s with heap:=s.heap.push {cls:=.type "range",data:=.fields #[.int lo t,.int hi u,.int 1 v]},toks:=tk}:=I.kept λb o e=>Heap.get?_push_of_some _ e
 refine⟨(s.heap.push {cls:=.type "range",data:=.fields #[.int lo t,.int hi u,.int 1 v]}).objs.size,[(s.heap.push {cls:=.type "range",data:=.fields #[.int lo t,.int hi u,.int 1 v]}).objs.size],_,_,H,rfl,
  I1.kept (t':=tk) λb o e=>Heap.get?_push_of_some _ e,abX _ lo (hi-lo).toNat,?_,λb hb=>?_,q⟩
 ·have e1:lo+((0:Nat):Int)*1=lo:=by simp
  have e2:(((hi-lo).toNat:Nat):Int)-((0:Nat):Int)=Builtin.Range.rangeSize lo hi 1:=by rw[rangeSize_one];split <;> omega
  show IsRangeIter _ _ (lo+((0:Nat):Int)*1) ((((hi-lo).toNat:Nat):Int)-((0:Nat):Int)) 1;rw[e1,e2];exact Heap.get?_push_size _ rfl
 ·have e:b=(s.heap.push {cls:=.type "range",data:=.fields #[.int lo t,.int hi u,.int 1 v]}).objs.size:=by simpa using hb
  subst e;exact I1.aa4 (Nat.le_refl _) (I1.hok.fresh (Nat.le_refl _))
noncomputable def ab4 (ta:TA):TI:=λσ H R=>ta σ H λvs H1=>∃j:Int,vs=[.int j]/\-(2^62)<=j/\j<2^62/\R (CK 0 j.toNat) H1
theorem eM {a:Expr}{ta:TA}{p:Pos}(hg:Gl X "range")(hm:X.mg "range"=none)(ha:PA X [a] ta)(hs:starEach [a] X.env=[(false,eval a X.env)]:=by rfl):PI X tg (.Call (.Name "range" p) [a] [] pos) (ab4 ta):=by
 intro pins s σ H R I h;refine Call_ (gP I hg hm boot_range (PyProof.Rows.callWith_type1 (bp (ha pos pins s σ H _ I h) λus s1 z'=>?_) hs rfl));obtain⟨vs,H1,I1,r1,q1⟩:=z';obtain⟨j,e,q1,q2,q⟩:=q1;subst e
 cases r1 with
 |cons r rr =>
  cases rr
  obtain⟨t,rfl⟩:=r;exact call_range_1 (ab2 I1 (by omega) (by omega) q1 q2 (by simpa using q))
noncomputable def TGs (wi:TI)(g:TG)(tb:TS):TS:=λD σ H=>wi σ H λJ H1=>∃W:Nat->Nat->St->Hp->Prop,(∃m,W 0 m σ H1)/\∀i m σ H,W i m σ H →
 (J.stop i H/\D.nx σ H)\/(J.go i H/\∃N:St->Hp->Prop,(∀σ' H',N σ' H'->∃m',m'<m/\W (i+1) m' σ' H')/\∀x H',J.yld i H x H'->g x σ H' λσ2 H2=>tb {D with nx:=N,ct:=N,bk:=D.nx} σ2 H2)
noncomputable def cU (fp:List Addr)(h:Heap):List (Addr×Obj):=fp.filterMap λb=>(h.get? b).map λo=>(b,o)
theorem bK {o:Obj}(hb:b∈fp)(e:h.get? b=some o):(b,o)∈cU fp h:=List.mem_filterMap.mpr ⟨b,hb,by rw[e];rfl⟩
theorem l5 {p:Addr×Obj}(hp:p∈cU fp h):p.1∈fp/\h.get? p.1=some p.2:=by
 obtain⟨b,hb,e⟩:=List.mem_filterMap.mp hp
 cases q:h.get? b with
 |none=>rw[q] at e;cases e
 |some o =>
  rw[q] at e;have e':(b,o)=p:=Option.some.inj e;subst e';exact⟨hb,q⟩
theorem Inv.pinned (I:Inv X pins σ H s)(hf:∀b∈fp,cf X pins H b)(ho:∀b∈fp,∃o,s.heap.get? b=some o/\∀v,o.data≠.cell v):Inv X (pins++cU fp s.heap) σ H s :=
 I.aaG λp hp=>(List.mem_append.mp hp).elim (λz=>I.pin p (List.mem_append_right _ z)) λz=>by
   obtain⟨hb,e⟩:=l5 z;obtain⟨f0,f1,f2,_⟩:=hf p.1 hb;obtain⟨o,e',d⟩:=ho p.1 hb;rw[e] at e';cases e';exact⟨e,f0,f1,f2,d⟩
theorem Inv.aaA {pl:List (Addr×Obj)}(I:Inv X (pins++pl) σ H s):Inv X pins σ H s:=I.aaG λp hp=>I.pin p (List.mem_append_right _ (List.mem_append_left _ hp))
theorem c9 {iter:Expr}{wi:TI}(hp:PassesOwn (model X.prog X.w) X.A X.env X.xe)(hc:X.calm=true)(hi:PI X tg iter wi)(hg:PG X tg g)(hb:iE X body tb)
 (hs:∀x,foldedSetIterable iter X.env x=pure x:=by intro _;rfl):PS X (.For tg iter body [] pos) (TGs wi g tb):=by
 intro pins s σ H D I h;refine wpAny_For (bp (hi pins s σ H _ I h) λv s1 h1=>bp h1 λKG s2 h2=>?_) hs;obtain⟨it,fp,tn,J,H2,e,I2,T,Gv,f2,W,⟨m0,w0⟩,turn⟩:=h2;subst e;have KH:∀{H':Hp},(∀b∈fp,H' b=none)->∀b∈fp,cf X pins H' b:=λhn b hb=>⟨hn b hb,(f2 b hb).2⟩;refine codeAny_forLoop_any (λn s'=>∃i σ' H',Inv X pins σ' H' s'/\tn i s'.heap/\(∀b∈fp,H' b=none)/\W i n σ' H') ?_ m0 ⟨0,σ,H2,I2,Gv,λb hb=>(f2 b hb).1,w0⟩;rintro n s3 ⟨i,σ3,H3,I3,TF,TH,w3⟩
 rcases turn i n σ3 H3 w3 with⟨stop,qn⟩|⟨go,N,hN,step⟩
 ·refine wpAny_passesOwn hp (bp (T.done X rfl rfl rfl hc i pins s3 σ3 H3 X.xe I3 (KH TH) TF stop) λr s4 z'=>?_);obtain⟨hr,I4⟩:=z';subst hr;exact wpAny_execs_nil ⟨σ3,H3,I4,qn⟩
 ·refine wpAny_passesOwn hp (bp (T.item X rfl rfl rfl hc i pins s3 σ3 H3 X.xe I3 (KH TH) TF go) λr s4 z'=>?_);obtain⟨u,hr,h4⟩:=z';subst hr;refine wpAny_passesOwn hp (bp h4 λ_ s5 z'=>?_);obtain⟨x,H5,I5,r5,y5,Ma,P6⟩:=z';have VT:=I5.pinned (KH P6) (T.obj _ _ Ma);refine wpAny_passesOwn hp (bp (hg _ s5 σ3 H5 x u _ VT r5 (step x H5 y5)) λ_ s6 z'=>?_);obtain⟨σ6,H6,I6,q6⟩:=z';refine wpAny_passesOwn hp (bp (hb _ s6 σ6 H6 _ I6 q6) λf s7 q7=>?_)
  have again:∀{σ7:St}{H7:Hp},Inv X (pins++cU fp s5.heap) σ7 H7 s7->N σ7 H7->∃m,m<n/\∃i σ' H',Inv X pins σ' H' s7/\tn i s7.heap/\(∀b∈fp,H' b=none)/\W i m σ' H':=λ{σ7 H7} I7 n7=>by
   obtain⟨m',hm,w7⟩:=hN σ7 H7 n7;refine⟨m',hm,i+1,σ7,H7,I7.aaA,T.keep _ _ _ Ma λb hb o e=>(I7.pin (b,o) (List.mem_append_right _ (List.mem_append_right _ (bK hb e)))).1,λb hb=>?_,w7⟩;obtain⟨o,e,d⟩:=T.obj _ _ Ma b hb;exact(I7.pin (b,o) (List.mem_append_right _ (List.mem_append_right _ (bK hb e)))).2.1
  cases f with
  |next=>obtain⟨σ7,H7,I7,n7⟩:=q7;exact again I7 n7
  |cont=>obtain⟨σ7,H7,I7,n7⟩:=q7;exact again I7 n7
  |brk=>obtain⟨σ7,H7,I7,q7⟩:=q7;exact⟨σ7,H7,I7.aaA,q7⟩
  |ret v=>obtain⟨x7,σ7,H7,I7,r7,q7⟩:=q7;exact⟨x7,σ7,H7,I7.aaA,r7,q7⟩
end
theorem jX {K:PySem.W.Frag}{a:Addr}{xs:List V}{D:Ends}(Pv:Nat->St->Hp->Prop)(h0:Pv 0 σ H)(hl:∀i σ H,i<=xs.length->Pv i σ H->aY K H a xs)
 (hs:∀i x σ H,xs[i]?=some x->Pv i σ H->g x σ H λσ2 H2=>tb {D with nx:=Pv (i+1),ct:=Pv (i+1),bk:=D.nx} σ2 H2)(hd:∀σ H,Pv xs.length σ H->D.nx σ H):
 ∃W:Nat->Nat->St->Hp->Prop,(∃m,W 0 m σ H)/\∀i m σ H,W i m σ H →
  ((BI K a).stop i H/\D.nx σ H)\/((BI K a).go i H/\∃N:St->Hp->Prop,(∀σ' H',N σ' H'->∃m',m'<m/\W (i+1) m' σ' H')/\∀x H',(BI K a).yld i H x H'->g x σ H' λσ2 H2=>tb {D with nx:=N,ct:=N,bk:=D.nx} σ2 H2):=by
 refine⟨λi m σ H=>m=xs.length-i/\i<=xs.length/\Pv i σ H,⟨xs.length,by simp,Nat.zero_le _,h0⟩,?_⟩;rintro i m σ H ⟨rfl,hi,p⟩;have q:=hl i σ H hi p
 by_cases FO:i<xs.length
 ·refine .inr ⟨⟨xs,xs[i],q,by simp[FO]⟩,Pv (i+1),λσ' H' p'=>⟨xs.length-(i+1),by omega,rfl,FO,p'⟩,λx H' y=>?_⟩;obtain⟨e,y⟩:=y;subst e;exact hs i x σ _ (y xs q) p
 ·have e:i=xs.length:=by omega
  subst e;exact .inl ⟨⟨xs,q,Nat.le_refl _⟩,hd σ H p⟩
theorem lS {lo:Int}{n:Nat}{D:Ends}(Pv:Nat->St->Hp->Prop)(h0:Pv 0 σ H)
 (hs:∀i σ H,i<n->Pv i σ H->g (.int (lo+i)) σ H λσ2 H2=>tb {D with nx:=Pv (i+1),ct:=Pv (i+1),bk:=D.nx} σ2 H2)(hd:∀σ H,Pv n σ H->D.nx σ H):
 ∃W:Nat->Nat->St->Hp->Prop,(∃m,W 0 m σ H)/\∀i m σ H,W i m σ H →
  ((CK lo n).stop i H/\D.nx σ H)\/((CK lo n).go i H/\∃N:St->Hp->Prop,(∀σ' H',N σ' H'->∃m',m'<m/\W (i+1) m' σ' H')/\∀x H',(CK lo n).yld i H x H'->g x σ H' λσ2 H2=>tb {D with nx:=N,ct:=N,bk:=D.nx} σ2 H2):=by
 refine⟨λi m σ H=>m=n-i/\i<=n/\Pv i σ H,⟨n,by simp,Nat.zero_le _,h0⟩,?_⟩;rintro i m σ H ⟨rfl,hi,p⟩
 by_cases FO:i<n
 ·refine .inr ⟨FO,Pv (i+1),λσ' H' p'=>⟨n-(i+1),by omega,rfl,FO,p'⟩,λx H' y=>?_⟩;obtain⟨e,y⟩:=y;subst e y;exact hs i σ _ FO p
 ·have e:i=n:=by omega
  subst e;exact .inl ⟨Nat.le_refl _,hd σ H p⟩
noncomputable abbrev R2:=V->V->Hp->VK->Prop
noncomputable def fu (X:Cx)(f:Value->Value->Sem Value)(r:R2):Prop :=
 ∀(pins:List (Addr×Obj))(s:Fp)(σ:St)(H:Hp)(x y:V)(v u:Value)(Q:VK),Inv X pins σ H s->aC x v->aC y u->r x y H Q →
  wpAny (model X.prog X.w) X.A (f v u) (EP X pins σ Q) X.xe s
noncomputable def EL (X:Cx)(f:Value->Sem Value)(r:V->Hp->VK->Prop):Prop :=
 ∀(pins:List (Addr×Obj))(s:Fp)(σ:St)(H:Hp)(x:V)(v:Value)(Q:VK),Inv X pins σ H s->aC x v->r x H Q →
  wpAny (model X.prog X.w) X.A (f v) (EP X pins σ Q) X.xe s
noncomputable def bZ (X:Cx)(f:Value)(r:List V->Hp->VK->Prop):Prop :=
 ∀(pins:List (Addr×Obj))(s:Fp)(σ:St)(H:Hp)(xs:List V)(us:qw)(Q:VK),Inv X pins σ H s->aG xs us->r xs H Q →
  wpAny (model X.prog X.w) X.A (call f us) (EP X pins σ Q) X.xe s
noncomputable def aby (X:Cx)(r:V->Hp->(Bool->Hp->Prop)->Prop):Prop :=
 ∀(pins:List (Addr×Obj))(s:Fp)(σ:St)(H:Hp)(x:V)(v:Value)(Q:Bool->Hp->Prop),Inv X pins σ H s->aC x v->r x H Q →
  wpAny (model X.prog X.w) X.A (truthy v) (TP X pins σ Q) X.xe s
noncomputable def qP (r:R2)(ta tb:TE):TE:=λσ H Q=>ta σ H λx H1=>tb σ H1 λy H2=>r x y H2 Q
noncomputable def abA (r:V->Hp->VK->Prop)(ta:TE):TE:=λσ H Q=>ta σ H λx H1=>r x H1 Q
noncomputable def rI (C:Int->Int->Prop)(g:Int->Int->V):R2:=λx y H Q=>∃i j,x=.int i/\y=.int j/\C i j/\Q (g i j) H
noncomputable def v3 (g:Int->Int->V):R2:=λx y H Q=>∃i j,x=.int i/\y=.int j/\Q (g i j) H
noncomputable def rU (g:Int->V):V->Hp->VK->Prop:=λx H Q=>∃i,x=.int i/\Q (g i) H
variable {f:Value->Value->Sem Value}
section
variable {X:Cx}{a b c:Expr}{ta tb tc:TE}{pos:Pos}
theorem Bg (ha:PE X a ta)(hb:PE X b tb){R:V->V->Hp->Prop}(I:Inv X pins σ H s)
 (h:ta σ H λx H1=>tb σ H1 λy H2=>R x y H2){Q:yg}
 (hf:∀v u s2 x y H2,Inv X pins σ H2 s2->aC x v->aC y u->R x y H2->wpAny (model X.prog X.w) X.A (f v u) Q X.xe s2):
 wpAny (model X.prog X.w) X.A (eval a X.env) (λv s₁=>wpAny (model X.prog X.w) X.A (eval b X.env) (λu s₂=>wpAny (model X.prog X.w) X.A (f v u) Q X.xe s₂) X.xe s₁) X.xe s:=by
 refine bp (ha pins s σ H _ I h) λv s1 z'=>?_;obtain⟨x,H1,I1,r1,q1⟩:=z';refine bp (hb pins s1 σ H1 _ I1 q1) λu s2 z'=>?_;obtain⟨y,H2,I2,r2,q2⟩:=z';exact hf v u s2 x y H2 I2 r1 r2 q2
theorem aD {op:Operator}{r:R2}(ho:fu X (binaryOp op) r)(ha:PE X a ta)(hb:PE X b tb):PE X (.BinOp a op b pos) (qP r ta tb):=by
 intro pins s σ H Q I h;exact wpAny_BinOp (Bg ha hb I h λv u s2 x y H2 I2 rx ry q=>ho pins s2 σ H2 x y v u Q I2 rx ry q)
theorem AD {op:UnaryOp}{r:V->Hp->VK->Prop}(ho:EL X (unaryOp op) r)(ha:PE X a ta):PE X (.UnaryOp op a pos) (abA r ta):=by
 intro pins s σ H Q I h;exact UnaryOp_ (bp (ha pins s σ H _ I h) λv s1 ⟨x,H1,I1,r1,q1⟩=>ho pins s1 σ H1 x v Q I1 r1 q1)
theorem BQ {C:Int->Int->Prop}{g:Int->Int->Int}
 (rule:∀(i j:Int)(t u:Tok)(s:Fp)(Q:yg)(E:yg),C i j->Q (.int (g i j) s.toks) {s with toks:=s.toks+1}->wpAny (model X.prog X.w) X.A (f (.int i t) (.int j u)) Q E s):
 fu X f (rI C λi j=>.int (g i j)):=by
 intro pins s σ H x y v u Q I rx ry h;obtain⟨i,j,rfl,rfl,hc,q⟩:=h;obtain⟨t,rfl⟩:=rx;obtain⟨t',rfl⟩:=ry;exact rule i j t t' s _ _ hc ⟨.int (g i j),H,I.tok _,⟨_,rfl⟩,q⟩
theorem CV {g:Int->Int->Int}
 (rule:∀(i j:Int)(t u:Tok)(s:Fp)(Q:yg)(E:yg),Q (.int (g i j) s.toks) {s with toks:=s.toks+1}->wpAny (model X.prog X.w) X.A (f (.int i t) (.int j u)) Q E s):
 fu X f (v3 λi j=>.int (g i j)):=by
 intro pins s σ H x y v u Q I rx ry h;obtain⟨i,j,rfl,rfl,q⟩:=h;obtain⟨t,rfl⟩:=rx;obtain⟨t',rfl⟩:=ry;exact rule i j t t' s _ _ ⟨.int (g i j),H,I.tok _,⟨_,rfl⟩,q⟩
theorem yU {g:Int->Int->Bool}
 (rule:∀(i j:Int)(t u:Tok)(s:Fp)(Q:yg)(E:yg),Q (.bool (g i j)) s->wpAny (model X.prog X.w) X.A (f (.int i t) (.int j u)) Q E s):
 fu X f (v3 λi j=>.bl (g i j)):=by
 intro pins s σ H x y v u Q I rx ry h;obtain⟨i,j,rfl,rfl,q⟩:=h;obtain⟨t,rfl⟩:=rx;obtain⟨t',rfl⟩:=ry;exact rule i j t t' s _ _ ⟨.bl (g i j),H,I,rfl,q⟩
noncomputable def abc (i j:Int):Prop:=0<j/\j<1073741824
noncomputable def ab8 (i j:Int):Prop:=0<=j/\j<=1000000/\i.natAbs<2^64
noncomputable def uP (i j:Int):Prop:=(-(2^64)<i/\i<2^64)\/(-(2^64)<j/\j<2^64)
theorem uP.ok {i j:Int}(h:uP i j):IntMulOk i j:=by
 rcases h with⟨h1,h2⟩|⟨h1,h2⟩
 ·exact .of_left (intBits_le_64 h1 h2)
 ·exact .of_right (intBits_le_64 h1 h2)
theorem dt:fu X (binaryOp .Add) (v3 λi j=>.int (i+j)):=CV λ_ _ _ _ _ _ _ q=>add_int q
theorem lr:fu X (binaryOp .Sub) (v3 λi j=>.int (i-j)):=CV λ_ _ _ _ _ _ _ q=>sub_int q
theorem c8:fu X (binaryOp .Mult) (rI uP λi j=>.int (i*j)):=BQ λ_ _ _ _ _ _ _ hc q=>mul_int q hc.ok
theorem acb:fu X (binaryOp .FloorDiv) (rI abc λi j=>.int (i/j)):=BQ λi j _ _ _ _ _ hc q=>by
 have h1:(0:Int)<j:=hc.1;have h2:j<1073741824:=hc.2;exact floordiv_int (by omega) (by rw[Int.fdiv_eq_ediv_of_nonneg i (by omega)];exact q) (.inl (PyProof.noPylong_small (by omega)))
theorem cL:fu X (binaryOp .Mod) (rI (λ_ j=>0<j) λi j=>.int (i%j)):=BQ λi j _ _ _ _ _ hc q=>by
 have h1:(0:Int)<j:=hc;exact mod_int' (by omega) (by rw[Int.fmod_eq_emod_of_nonneg i (by omega)];exact q)
theorem nj:fu X (binaryOp .Mod) (rI (λ_ j=>j≠0) λi j=>.int (i.fmod j)):=BQ λ_ _ _ _ _ _ _ hc q=>mod_int' hc q
theorem iP:fu X (binaryOp .Pow) (rI ab8 λi j=>.int (i^j.toNat)):=BQ λ_ _ _ _ _ _ _ hc q=>pow_int_small hc.1 hc.2.1 hc.2.2 q
theorem acj {f:Value->Sem Value}{g:Int->Int}
 (rule:∀(i:Int)(t:Tok)(s:Fp)(Q:yg)(E:yg),Q (.int (g i) s.toks) {s with toks:=s.toks+1}->wpAny (model X.prog X.w) X.A (f (.int i t)) Q E s):
 EL X f (rU λi=>.int (g i)):=by
 intro pins s σ H x v Q I rx h;obtain⟨i,rfl,q⟩:=h;obtain⟨t,rfl⟩:=rx;exact rule i t s _ _ ⟨.int (g i),H,I.tok _,⟨_,rfl⟩,q⟩
theorem yz:EL X (unaryOp .USub) (rU λi=>.int (-i)):=acj λ_ _ _ _ _ q=>neg_int q
end
noncomputable def DI:V->V->Bool
 | .non,.non=>true| .non,.int _=>true| .int _,.non=>true| .non,.bl _=>true| .bl _,.non=>true| .non,.str _=>true| .str _,.non=>true
 | .int _,.int _=>true| .bl _,.bl _=>true| .str _,.str _=>true| .byt _,.byt _=>true
 | .int _,.str _=>true| .str _,.int _=>true| .bl _,.str _=>true| .str _,.bl _=>true
 |_,_=>false
noncomputable def rEq:R2:=λx y H Q=>DI x y=true/\Q (.bl (decide (x=y))) H
noncomputable def rNe:R2:=λx y H Q=>DI x y=true/\Q (.bl (!decide (x=y))) H
theorem tY {i j:Int}:decide (V.int i=V.int j)=(i==j):=by
 rw[Bool.eq_iff_iff];simp
theorem wG {i j:Bool}:decide (V.bl i=V.bl j)=(i==j):=by
 rw[Bool.eq_iff_iff];simp
theorem su {i j:Str}:decide (V.str i=V.str j)=(i==j):=by
 rw[Bool.eq_iff_iff];simp
theorem sR {i j:Array UInt8}:decide (V.byt i=V.byt j)=(i.toList==j.toList):=by
 rw[Bool.eq_iff_iff]
 cases i
 cases j
 simp
variable {Q:VK}
section
variable {X:Cx}{a b c:Expr}{ta tb tc:TE}{pos:Pos}
theorem a9 {k k':Bool}(I:Inv X pins σ H s)(q:Q (.bl k) H)(e:k=k'):EP X pins σ Q (.bool k') s:=by
 subst e;exact⟨.bl k,H,I,rfl,q⟩
theorem dC:fu X (compareOp .Eq) rEq:=by
 intro pins s σ H x y v u Q I rx ry h;obtain⟨hs,q⟩:=h
 cases x with
 |non =>
  cases rx
  cases y with
  |non=>cases ry;exact PySem.EqNone.eq_none_none (a9 I q (by simp))
  |bl j=>cases ry;exact PySem.EqNone.eq_none_bool (a9 I q (by simp))
  |int j=>obtain⟨t',rfl⟩:=ry;exact PySem.EqNone.eq_none_int (a9 I q (by simp))
  |str j=>obtain⟨t',rfl⟩:=ry;exact PySem.EqNone.eq_none_str (a9 I q (by simp))
  |_=>exact absurd (show false=true from hs) Bool.false_ne_true
 |bl i =>
  cases rx
  cases y with
  |non=>cases ry;exact PySem.EqNone.eq_bool_none (a9 I q (by simp))
  |bl j=>cases ry;exact eq_bool (a9 I q wG)
  |str j=>obtain⟨t',rfl⟩:=ry;exact PySem.EqMixed.eq_bool_str (a9 I q (by simp))
  |_=>exact absurd (show false=true from hs) Bool.false_ne_true
 |int i =>
  obtain⟨t,rfl⟩:=rx
  cases y with
  |non=>cases ry;exact PySem.EqNone.eq_int_none (a9 I q (by simp))
  |int j=>obtain⟨t',rfl⟩:=ry;exact eq_int (a9 I q tY)
  |str j=>obtain⟨t',rfl⟩:=ry;exact PySem.EqMixed.eq_int_str (a9 I q (by simp))
  |_=>exact absurd (show false=true from hs) Bool.false_ne_true
 |str i =>
  obtain⟨t,rfl⟩:=rx
  cases y with
  |non=>cases ry;exact PySem.EqNone.eq_str_none (a9 I q (by simp))
  |bl j=>cases ry;exact PySem.EqMixed.eq_str_bool (a9 I q (by simp))
  |int j=>obtain⟨t',rfl⟩:=ry;exact PySem.EqMixed.eq_str_int (a9 I q (by simp))
  |str j=>obtain⟨t',rfl⟩:=ry;exact eq_str (a9 I q su)
  |_=>exact absurd (show false=true from hs) Bool.false_ne_true
 |byt i =>
  obtain⟨t,rfl⟩:=rx
  cases y with
  |byt j=>obtain⟨t',rfl⟩:=ry;exact PySem.W.eq_bytes (a9 I q sR)
  |_=>exact absurd (show false=true from hs) Bool.false_ne_true
 |_=>cases y <;> exact absurd (show false=true from hs) Bool.false_ne_true
theorem hV:fu X (compareOp .NotEq) rNe:=by
 intro pins s σ H x y v u Q I rx ry h;obtain⟨hs,q⟩:=h
 cases x with
 |non =>
  cases rx
  cases y with
  |non=>cases ry;exact PySem.EqNone.ne_none_none (a9 I q (by simp))
  |bl j=>cases ry;exact PySem.EqNone.ne_none_bool (a9 I q (by simp))
  |int j=>obtain⟨t',rfl⟩:=ry;exact PySem.EqNone.ne_none_int (a9 I q (by simp))
  |str j=>obtain⟨t',rfl⟩:=ry;exact PySem.EqNone.ne_none_str (a9 I q (by simp))
  |_=>exact absurd (show false=true from hs) Bool.false_ne_true
 |bl i =>
  cases rx
  cases y with
  |non=>cases ry;exact PySem.EqNone.ne_bool_none (a9 I q (by simp))
  |bl j=>cases ry;exact ne_bool (a9 I q (congrArg not wG))
  |str j=>obtain⟨t',rfl⟩:=ry;exact PySem.EqMixed.ne_bool_str (a9 I q (by simp))
  |_=>exact absurd (show false=true from hs) Bool.false_ne_true
 |int i =>
  obtain⟨t,rfl⟩:=rx
  cases y with
  |non=>cases ry;exact PySem.EqNone.ne_int_none (a9 I q (by simp))
  |int j=>obtain⟨t',rfl⟩:=ry;exact ne_int (a9 I q (congrArg not tY))
  |str j=>obtain⟨t',rfl⟩:=ry;exact PySem.EqMixed.ne_int_str (a9 I q (by simp))
  |_=>exact absurd (show false=true from hs) Bool.false_ne_true
 |str i =>
  obtain⟨t,rfl⟩:=rx
  cases y with
  |non=>cases ry;exact PySem.EqNone.ne_str_none (a9 I q (by simp))
  |bl j=>cases ry;exact PySem.EqMixed.ne_str_bool (a9 I q (by simp))
  |int j=>obtain⟨t',rfl⟩:=ry;exact PySem.EqMixed.ne_str_int (a9 I q (by simp))
  |str j=>obtain⟨t',rfl⟩:=ry;exact ne_str (a9 I q (congrArg not su))
  |_=>exact absurd (show false=true from hs) Bool.false_ne_true
 |byt i =>
  obtain⟨t,rfl⟩:=rx
  cases y with
  |byt j=>obtain⟨t',rfl⟩:=ry;exact PySem.W.ne_bytes (a9 I q (congrArg not sR))
  |_=>exact absurd (show false=true from hs) Bool.false_ne_true
 |_=>cases y <;> exact absurd (show false=true from hs) Bool.false_ne_true
theorem kQ:fu X (compareOp .Lt) (v3 λi j=>.bl (decide (i<j))):=yU λ_ _ _ _ _ _ _ q=>lt_int q
theorem me:fu X (compareOp .LtE) (v3 λi j=>.bl (decide (i<=j))):=yU λ_ _ _ _ _ _ _ q=>le_int q
theorem wU:fu X (compareOp .Gt) (v3 λi j=>.bl (decide (j<i))):=yU λ_ _ _ _ _ _ _ q=>gt_int q
theorem AF:fu X (compareOp .GtE) (v3 λi j=>.bl (decide (j<=i))):=yU λ_ _ _ _ _ _ _ q=>ge_int q
theorem ack:fu X (compareOp .Is) (λx y H Q=>y=.non/\Q (.bl (decide (x=.non))) H):=by
 intro pins s σ H x y v u Q I rx ry h;obtain⟨rfl,q⟩:=h
 cases ry
 refine is_none_gen (a9 I q ?_)
 cases x <;> first
  |(cases rx;rfl)
  |(obtain⟨t,rfl⟩:=rx;rfl)
theorem aM (b:Expr)(h:op ≠ .In:=by decide)(h2:op ≠ .NotIn:=by decide):behindInMarks op b=false:=by
 have e1:(op==CmpOp.In)=false:=by cases op <;> first|rfl|exact absurd rfl h
 have e2:(op==CmpOp.NotIn)=false:=by cases op <;> first|rfl|exact absurd rfl h2
 cases b <;> simp[behindInMarks,e1,e2]
theorem cP {op:CmpOp}{r:R2}(ho:fu X (compareOp op) r)(ha:PE X a ta)(hb:PE X b tb)(hm:behindInMarks op b=false):PE X (.Compare a [op] [b] pos) (qP r ta tb):=by
 intro pins s σ H Q I h;exact wpAny_Compare1 (Bg ha hb I h λv u s2 x y H2 I2 rx ry q=>ho pins s2 σ H2 x y v u Q I2 rx ry q) hm
noncomputable def wg (t:TE):TT:=λσ H Q=>t σ H λx H'=>∃k,x=.bl k/\Q k H'
theorem aN {op:CmpOp}{r:R2}(ho:fu X (compareOp op) r)(ha:PE X a ta)(hb:PE X b tb)(hm:behindInMarks op b=false):PT X (.Compare a [op] [b] pos) (wg (qP r ta tb)):=by
 intro pins s σ H Q I h
 refine wpAny_isTrue_Compare1 (bp (ha pins s σ H _ I h) λv s1 ⟨x,H1,I1,r1,q1⟩=>bp (hb pins s1 σ H1 _ I1 q1) λu s2 ⟨y,H2,I2,r2,q2⟩ =>
  bp (ho pins s2 σ H2 x y v u _ I2 r1 r2 q2) λc s3 ⟨z,H3,I3,r3,k,e,q3⟩=>?_) hm
 subst e
 cases r3
 exact wpAny_truthy_bool ⟨H3,I3,q3⟩
noncomputable def wI (r r':R2)(ta tb tc:TE):TE:=λσ H Q=>ta σ H λx H1=>tb σ H1 λy H2=>r x y H2 λz H3=>∃k,z=.bl k /\
 (if k=true then tc σ H3 λw' H4=>r' y w' H4 Q else Q (.bl false) H3)
theorem pf {KI:CmpOp}{r r':R2}(ho:fu X (compareOp op) r)(Gq:fu X (compareOp KI) r')(ha:PE X a ta)(hb:PE X b tb)(hc:PE X c tc)
 (hm:lastMarks [op,KI] [b,c]=false:=by with_unfolding_all rfl):PE X (.Compare a [op,KI] [b,c] pos) (wI r r' ta tb tc):=by
 intro pins s σ H Q I h
 refine Compare_chain (bp (ha pins s σ H _ I h) λv s1 ⟨x,H1,I1,r1,q1⟩=>chain_link (bp (hb pins s1 σ H1 _ I1 q1) λu s2 ⟨y,H2,I2,r2,q2⟩ =>
  bp (ho pins s2 σ H2 x y v u _ I2 r1 r2 q2) λd s3 ⟨z,H3,I3,r3,k,e,q3⟩=>?_)) hm
 subst e
 cases r3
 refine wpAny_truthy_bool ?_
 cases k with
 |false=>exact ite_ff ⟨.bl false,H3,I3,rfl,q3⟩
 |true=>exact ite_tt (chain_last (bp (hc pins s3 σ H3 _ I3 q3) λw' s4 ⟨z',H4,I4,r4,q4⟩=>Gq pins s4 σ H4 y z' u w' Q I4 r2 r4 q4))
theorem acr {KI:CmpOp}{r r':R2}(ho:fu X (compareOp op) r)(Gq:fu X (compareOp KI) r')(ha:PE X a ta)(hb:PE X b tb)(hc:PE X c tc)
 (hm:lastMarks [op,KI] [b,c]=false:=by with_unfolding_all rfl):PT X (.Compare a [op,KI] [b,c] pos) (wg (wI r r' ta tb tc)):=by
 intro pins s σ H Q I h
 refine isTrue_chain (bp (ha pins s σ H _ I h) λv s1 ⟨x,H1,I1,r1,q1⟩=>test_link (bp (hb pins s1 σ H1 _ I1 q1) λu s2 ⟨y,H2,I2,r2,q2⟩ =>
  bp (ho pins s2 σ H2 x y v u _ I2 r1 r2 q2) λd s3 ⟨z,H3,I3,r3,k,e,q3⟩=>?_)) hm
 subst e
 cases r3
 refine wpAny_truthy_bool ?_
 cases k with
 |false =>
  obtain⟨k',e',q'⟩:=q3
  cases e'
  exact ite_ff ⟨H3,I3,q'⟩
 |true =>
  refine ite_tt (test_last (bp (hc pins s3 σ H3 _ I3 q3) λw' s4 ⟨z',H4,I4,r4,q4⟩=>bp (Gq pins s4 σ H4 y z' u w' _ I4 r2 r4 q4) λd' s5 ⟨z2,H5,I5,r5,k2,e2,q5⟩=>?_));subst e2
  cases r5
  exact wpAny_truthy_bool ⟨H5,I5,q5⟩
noncomputable def CP (K:PySem.W.Frag)(x:V)(H:Hp)(k:Bool):Prop :=
 match x with
 | .non=>k=false
 | .bl b=>k=b
 | .int i=>k=(i != 0)
 | .str y=>y.length<=sizeLine/\k=((y.length:Int) != 0)
 | .byt y=>y.size<=sizeLine/\k=((y.size:Int) != 0)
 | .ref p=>(∃xs,aY K H p xs/\k = !xs.isEmpty)\/(∃xs,bf K H p xs/\k = !xs.isEmpty)\/∃FF,H p=some (.dK FF)/\k = !FF.isEmpty
 |_=>False
theorem Sig {κ:Type}{FF:List (κ×V)}{vs:List (κ×Value)}(r:KV FF vs):(!vs.isEmpty) = !FF.isEmpty:=by
 cases r <;> rfl
theorem jN {xs:List V}{its:qw}(r:aG xs its):(!its.toArray.isEmpty) = !xs.isEmpty:=by
 cases r <;> simp
theorem kJ:(sizeLine:Nat)<2^63:=by rw[sizeLine_eq];decide
theorem abK:aby X (λx H Q=>∃k,CP X.K x H k/\Q k H):=by
 intro pins s σ H x v Q I rx h;obtain⟨k,e,q⟩:=h;have hl:=kJ;have hs:sizeLine=16777216:=sizeLine_eq
 cases x with
 |non =>
  cases rx
  have e':k=false:=e;subst e';exact truthy_none ⟨H,I,q⟩
 |bl b =>
  cases rx
  have e':k=b:=e;subst e';exact wpAny_truthy_bool ⟨H,I,q⟩
 |int i =>
  obtain⟨t,rfl⟩:=rx;have e':k=(i != 0):=e;subst e';exact PySem.P.truthy_int ⟨H,I,q⟩
 |str y =>
  obtain⟨t,rfl⟩:=rx;obtain⟨hy,e'⟩:y.length<=sizeLine/\k=((y.length:Int) != 0):=e;subst e';exact PySem.P.truthy_str (by omega) ⟨H,I.tok _,q⟩
 |byt y =>
  obtain⟨t,rfl⟩:=rx;obtain⟨hy,e'⟩:y.size<=sizeLine/\k=((y.size:Int) != 0):=e;subst e';exact PySem.W.truthy_bytes (by omega) ⟨H,I.tok _,q⟩
 |ref p =>
  cases rx
  have e':(∃xs,aY X.K H p xs/\k = !xs.isEmpty)\/(∃xs,bf X.K H p xs/\k = !xs.isEmpty)\/∃FF,H p=some (.dK FF)/\k = !FF.isEmpty:=e
  rcases e' with⟨xs,hx,e'⟩|⟨xs,hx,e'⟩|⟨FF,hx,e'⟩
  ·subst e';obtain⟨its,r,pl,hz⟩:=I.list hx;have hlen:=r.length;exact wpAny_truthy_list pl.isList (by simp only[List.size_toArray];omega) ⟨H,I.tok _,by rw[jN r];exact q⟩
  ·subst e';obtain⟨its,r,pl,hz⟩:=I.tuple hx;have hlen:=r.length;exact truthy_tuple pl (by simp only[List.size_toArray];omega) ⟨H,I.tok _,by rw[jN r];exact q⟩
  ·subst e';obtain⟨hz,hS,vs,r,m⟩:FF.length<=sizeLine/\(p==sysModules)=false/\∃vs,KV FF vs/\s.heap.DictOf (aQ X.prog X.w) p vs:=I.hok p _ hx;have hlen:FF.length=vs.length:=Paired.length r;exact wpAny_truthy_dict hS m (by omega) ⟨H,I.tok _,by rw[Sig r];exact q⟩
 |_=>exact(show False from e).elim
theorem qh (ha:PE X a ta)(he:∀c5,isTrue a X.env c5=(do let v <-c5;standAt a.pos;holding [v] (truthy v))):
 PT X a (λσ H Q=>ta σ H λx H'=>∃k,CP X.K x H' k/\Q k H'):=by
 intro pins s σ H Q I h;exact isTrue_plain (bp (ha pins s σ H _ I h) λv s1 ⟨x,H1,I1,r1,q1⟩=>abK pins s1 σ H1 x v Q I1 r1 q1) (he _)
theorem fE {x:V}(r:aG [x] us):∃u,us=[u]/\aC x u:=by
 cases r with
 |cons r1 r2=>cases r2;exact⟨_,rfl,r1⟩
theorem xX {x:V}(r:aG [x,y] us):∃u w',us=[u,w']/\aC x u/\aC y w':=by
 cases r with
 |cons r1 r2 =>
  cases r2 with
  |cons r3 r4=>cases r4;exact⟨_,_,rfl,r1,r3⟩
theorem hZ:bZ X (.builtin "abs") (λxs H Q=>∃i,xs=[.int i]/\Q (.int (if i<0 then -i else i)) H):=by
 intro pins s σ H xs us Q I r h;obtain⟨i,rfl,q⟩:=h;obtain⟨u,rfl,t,rfl⟩:=fE r;exact call_abs_int λu tk=>⟨.int (if i<0 then -i else i),H,I.tok _,⟨_,rfl⟩,q⟩
theorem TyX (hc:X.calm=true):bZ X (.builtin "max") (λxs H Q=>∃i j,xs=[.int i,.int j]/\Q (.int (if j>i then j else i)) H):=by
 intro pins s σ H xs us Q I r h;obtain⟨i,j,rfl,q⟩:=h;obtain⟨u,w',rfl,⟨t,rfl⟩,⟨t',rfl⟩⟩:=xX r;refine max_two_ints (I.ok.hd hc) λh' tk k=>⟨_,H,I.kept k,?_,q⟩
 by_cases hj:j>i
 ·rw[if_pos hj,if_pos hj];exact⟨_,rfl⟩
 ·rw[if_neg hj,if_neg hj];exact⟨_,rfl⟩
theorem aaU (hc:X.calm=true):bZ X (.builtin "min") (λxs H Q=>∃i j,xs=[.int i,.int j]/\Q (.int (if j<i then j else i)) H):=by
 intro pins s σ H xs us Q I r h;obtain⟨i,j,rfl,q⟩:=h;obtain⟨u,w',rfl,⟨t,rfl⟩,⟨t',rfl⟩⟩:=xX r;refine min_two_ints (I.ok.hd hc) λh' tk k=>⟨_,H,I.kept k,?_,q⟩
 by_cases hj:j<i
 ·rw[if_pos hj,if_pos hj];exact⟨_,rfl⟩
 ·rw[if_neg hj,if_neg hj];exact⟨_,rfl⟩
theorem ng:bZ X (.type "int") (λxs H Q=>(∃i,xs=[.int i]/\Q (.int i) H)\/∃k,xs=[.bl k]/\Q (.int (if k then 1 else 0)) H):=by
 intro pins s σ H xs us Q I r h
 rcases h with⟨i,rfl,q⟩|⟨k,rfl,q⟩
 ·obtain⟨u,rfl,t,rfl⟩:=fE r;exact call_int_int ⟨.int i,H,I,⟨_,rfl⟩,q⟩
 ·obtain⟨u,rfl,r1⟩:=fE r
  cases r1
  exact call_int_bool ⟨.int (if k then 1 else 0),H,I.tok _,⟨_,rfl⟩,q⟩
end
structure E2 (h:Heap)(x dx C:Addr)(mA:FA):Prop where
 obj:h.get? x=some (PySem.W.instObj C dx)
 ns:h.Ns1 dx mA
 ne:dx≠x
theorem mv {dx:Addr}{mA:FA}(n:h.Ns1 dx mA):∃od,h.get? dx=some od/\∀name,PySem.W.lookIn name od=some (mA name):=by
 obtain⟨o,es,ep,ho,hd,hk,_,hm⟩:=n;refine⟨o,ho,λname=>?_⟩;have e:=hm name;unfold nsFind findBy at e;rw[<-Array.find?_toList] at e;unfold PySem.W.lookIn;rw[hd];dsimp only
 split
 ·rename_i y q
  rw[q] at e;exact congrArg some e
 ·rename_i q
  rw[q] at e
  have a:es.toList.any (·.refKey)=false:=by
   rw[List.any_eq_false];intro y hy;obtain⟨z,t,Jn⟩:=hk y (Array.mem_toList_iff.mp hy);simp[DictEntry.refKey,Jn]
  have a':¬es.toList.any (·.refKey)=true:=by rw[a];exact Bool.false_ne_true
  rw[if_neg a'];exact congrArg some e
variable {C:Addr}
theorem E2.look {x dx:Addr}{mA:FA}(I:E2 h x dx C mA):∃od,PySem.W.InstAt h x (PySem.W.instObj C dx) C (some od)/\∀name,PySem.W.lookIn name od=some (mA name):=
 let⟨od,ho,hl⟩:=mv I.ns
 ⟨od,⟨I.obj,rfl,rfl,ho⟩,hl⟩
variable {pl:Sem Bool}{kw:List (Str×Value)}
section
variable {prog:vQ}{w:World}{A:Around}{E:yg}{s:Fp}{K:PySem.W.Frag}{x dx C f:Addr}{mA:FA}{name:Str}{v:Value}
theorem aa0 {expr:Bool}{Q:yg}(X:K.In s.heap)(I:E2 s.heap x dx C mA)(hg:PySem.W.plainGet K C name=true)(hh:PySem.W.hasDictIn K C=true)
 (ha:PySem.W.findIn K (.ref C) name=some none)(hv:mA name=some v)(OW:PySem.W.handedIn v=true)(h:Q v {s with toks:=s.toks+1}):
 wpAny (model prog w) A (getAttr (.ref x) name expr) Q E s:=by
 obtain⟨od,J,hl⟩:=I.look;exact PySem.W.get_value X J (PySem.W.plainGet_of hg).1 (PySem.W.findObj_own hh ha rfl (by rw[hl,hv])) OW h
theorem aaO {Q:Value×List Value->Shared->Prop}(X:K.In s.heap)(I:E2 s.heap x dx C mA)(hg:PySem.W.plainGet K C name=true)
 (hf:PySem.W.findIn K (.ref C) name=some (some (.ref f)))(ht:PySem.W.isFn K (.ref f)=true)(hv:mA name=none)(h:Q (.ref f,[.ref x]) s):
 wpAny (model prog w) A (getMethod (.ref x) name pl) Q E s:=by
 obtain⟨od,J,hl⟩:=I.look;exact PySem.W.method_fn X J (PySem.W.plainGet_of hg).1 (PySem.W.plainGet_of hg).2 hf (beq_iff_eq.mp ht) (by show(PySem.W.lookIn name od).map (·.isSome)=some false;rw[hl,hv];rfl) h
theorem abL {ns:wk}{Q:Unit->Shared->Prop}(X:K.In s.heap)(I:E2 s.heap x dx C mA)
 (hs:PySem.W.findIn K (.ref C) "__setattr__"=some (some (.builtin "object.__setattr__")))(hp:PySem.W.plainOver K C=true)(ht:PySem.W.takerIn K C name=some none)(hh:PySem.W.hasDictIn K C=true)
 (hw:PySem.Within mA ns)(hsz:ns.length<=sizeLine)
 (h:∀h',E2 h' x dx C (λy=>if y=name then some v else mA y)->Heap.SameBut dx s.heap h'->Q () {s with heap:=h',toks:=s.toks+2}):
 wpAny (model prog w) A (setAttr (.ref x) name v) Q E s:=by
 obtain⟨od,J,hl⟩:=I.look;refine PySem.W.set_plain X J hs (PySem.W.osa_open (s:={s with toks:=s.toks+1}) (r:=none) X J hp ht λb=>?_);obtain⟨cd,hc,PU⟩:=PySem.W.any_some hh;have hx:s.heap.get? x=some ⟨.ref C,some dx,.plain,#[]⟩:=I.obj;refine wpAny_bind (wpAny_pure (wpAny_bind (wpAny_bind (wpAny_loadPart hx (wpAny_bind (PySem.W.Looks.here (s:={s with toks:=s.toks+1}) (PySem.W.looks_clsIn X hc) ?_))))));rw[PU];refine wpAny_pure (a:=some dx) (wpAny_bind (wpAny_pure (wpAny_bind ?_)));refine wpAny_nsSet1 (s:={s with toks:=s.toks+1}) I.ns λh' OX Mb=>?_;obtain⟨oD,VU,VV,P7,P8,Io⟩:=OX.count (PySem.Within.cons name v hw);refine wpAny_bind (wpAny_lookBehind P7 (by rw[P8];exact pastItsLine_dict (Nat.le_trans Io (by rw[List.length_cons];omega))) ?_);exact wpAny_pure (h _ ⟨(Mb.2 _ (Ne.symm I.ne)).trans I.obj,OX,I.ne⟩ Mb)
theorem acm {R:Result->Shared->Prop}{vs:qw}(X:K.In s.heap)(hm:PySem.W.makesIn K C=true)
 (hi:PySem.W.findIn K (.ref C) "__init__"=some (some (.ref f)))(hf:PySem.W.typeIn K (.ref f)=some (.type "function"))
 (h:codeAny (model prog w) (A.under (.builtin "type.__call__" ⟨.ref C::vs,kw⟩)) (.call (.ref f) ⟨.ref (s.heap.objs.size+1):: vs,kw⟩) (PySem.W.InitBack (s.heap.objs.size+1) R)
  {s with heap:=(s.heap.push PySem.W.emptyDict).push (PySem.W.instObj C s.heap.objs.size)}):
 codeAny (model prog w) A (.call (.ref C) ⟨vs,kw⟩) R s:=by
 obtain⟨hh,g,d,t,os⟩:=s;exact PySem.W.make_core (PySem.W.makes_of X hm) (PySem.W.looks_findIn X hi) (λself=>PySem.W.bind_fn X self hf) (.inl rfl) h
end
noncomputable def dJ (f:Str)(v:V):List (Str×V)->List (Str×V)
 |[]=>[(f,v)]
 |(g,x):: r=>if g=f then(g,v):: r else(g,x):: dJ f v r
theorem jb (f g:Str)(v:V):∀fs:List (Str×V),(dJ f v fs).lookup g=if g=f then some v else fs.lookup g
 |[]=>by
  show List.lookup g [(f,v)]=_
  by_cases h:g=f
  ·have hb:(g==f)=true:=beq_iff_eq.mpr h;simp only[List.lookup,hb,if_pos h]
  ·have hb:(g==f)=false:=beq_eq_false_iff_ne.mpr h;simp only[List.lookup,hb,if_neg h]
 |(k,x):: r=>by
  have ih:=jb f g v r;rw[show dJ f v ((k,x):: r)=(if k=f then(k,v):: r else(k,x):: dJ f v r) from rfl]
  by_cases hk:k=f
  ·rw[if_pos hk]
   by_cases h:g=k
   ·have hb:(g==k)=true:=beq_iff_eq.mpr h;simp only[List.lookup,hb,if_pos (h.trans hk)]
   ·have hb:(g==k)=false:=beq_eq_false_iff_ne.mpr h;simp only[List.lookup,hb,if_neg (λe:g=f=>h (e.trans hk.symm))]
  ·rw[if_neg hk]
   by_cases h:g=k
   ·have hb:(g==k)=true:=beq_iff_eq.mpr h;simp only[List.lookup,hb,if_neg (λe:g=f=>hk (h.symm.trans e))]
   ·have hb:(g==k)=false:=beq_eq_false_iff_ne.mpr h;simp only[List.lookup,hb];exact ih
theorem iO (f:Str)(v:V):∀fs:List (Str×V),f∈(dJ f v fs).map (·.1)/\∀g,g∈fs.map (·.1)->g∈(dJ f v fs).map (·.1)
 |[]=>⟨by simp[dJ],λg h=>by simp at h⟩
 |(k,x):: r=>by
  obtain⟨i1,i2⟩:=iO f v r;rw[show dJ f v ((k,x):: r)=(if k=f then(k,v):: r else(k,x):: dJ f v r) from rfl]
  by_cases hk:k=f
  ·rw[if_pos hk];subst hk;exact⟨by simp,λg h=>by simpa using h⟩
  ·rw[if_neg hk];refine⟨?_,λg h=>?_⟩
   ·rw[List.map_cons];exact List.mem_cons_of_mem _ i1
   ·rw[List.map_cons] at h |-
    rcases List.mem_cons.mp h with e|e
    ·exact List.mem_cons.mpr (.inl e)
    ·exact List.mem_cons_of_mem _ (i2 g e)
theorem ja (f:Str)(v:V):∀fs:List (Str×V),(dJ f v fs).length<=fs.length+1
 |[]=>by simp[dJ]
 |(k,x):: r=>by
  have ih:=ja f v r;rw[show dJ f v ((k,x):: r)=(if k=f then(k,v):: r else(k,x):: dJ f v r) from rfl]
  by_cases hk:k=f
  ·rw[if_pos hk,List.length_cons,List.length_cons];omega
  ·rw[if_neg hk,List.length_cons,List.length_cons];omega
theorem dq.some_of {v:V}{o:Eh}(r:dq (some v) o):∃u,o=some u/\aC v u:=by
 cases o with
 |none=>exact(show False from r).elim
 |some u=>exact⟨u,rfl,r⟩
theorem dq.none_of {o:Eh}(r:dq none o):o=none:=by
 cases o with
 |none=>rfl
 |some u=>exact(show False from r).elim
theorem mK (r:aC v u):PySem.W.handedIn u=true:=by
 cases v with
 |non=>cases(show u=Value.none from r);rfl
 |bl b=>cases(show u=Value.bool b from r);rfl
 |int i=>obtain⟨t,e⟩:=(show ∃t,u=Value.int i t from r);cases e;rfl
 |str x=>obtain⟨t,e⟩:=(show ∃t,u=Value.str x t from r);cases e;rfl
 |byt b=>obtain⟨t,e⟩:=(show ∃t,u=Value.bytes b t from r);cases e;rfl
 |flt b=>obtain⟨t,e⟩:=(show ∃t,u=Value.float b t from r);cases e;rfl
 |ref a=>cases(show u=Value.ref a from r);rfl
 |ty n=>cases(show u=Value.type n from r);rfl
section
variable {P:vQ}{w:World}{H H':Hp}{h h':Heap}{a C dx:Addr}{fs VQ:List (Str×V)}
theorem jv (hok:dM P w H h)(e:H a=some (.ins C dx fs)):∃mA,E2 h a dx C mA/\(∀f,dq (fs.lookup f) (mA f))/\PySem.Within mA (fs.map (·.1))/\fs.length<=1000/\H dx=some (.own a):=by
 obtain⟨d,z,ne,ob,mA,n,r,q⟩:=(show ba P w H h a (.ins C dx fs) from hok a _ e);exact⟨mA,⟨ob,n,ne⟩,r,q,z,d⟩
end
structure wm (K:PySem.W.Frag)(C:Addr):Prop where
 pg:PySem.W.plainGet K C Str.empty=true
 hd:PySem.W.hasDictIn K C=true
 po:PySem.W.plainOver K C=true
 sa:PySem.W.findIn K (.ref C) "__setattr__"=some (some (.builtin "object.__setattr__"))
theorem wm.get (c:wm K C)(f:Str):PySem.W.plainGet K C f=true:=c.pg
noncomputable def cu (K:PySem.W.Frag)(C:Addr)(f:Str):Prop:=PySem.W.findIn K (.ref C) f=some none
theorem cu.acn {f:Str}(n:cu K C f):PySem.W.takerIn K C f=some none:=by
 unfold PySem.W.takerIn;rw[show PySem.W.findIn K (.ref C) f=some none from n];rfl
structure Meth (K:PySem.W.Frag)(C:Addr)(m:Str)(f:Addr):Prop where
 at_:PySem.W.findIn K (.ref C) m=some (some (.ref f))
 fn:PySem.W.isFn K (.ref f)=true
 kp:PySem.W.keepIn K (.ref f)=true
section
variable {X:Cx}{pins:List (Addr×Obj)}{σ:St}{H:Hp}{s:Fp}{a C dx:Addr}{fs:List (Str×V)}{f:Str}{v:V}{A:Around}{E:yg}
theorem acp {b:Bool}{Q:yg}(I:Inv X pins σ H s)(e:H a=some (.ins C dx fs))(c:wm X.K C)(n:cu X.K C f)(l:fs.lookup f=some v)
 (h:∀u s',Inv X pins σ H s'->aC v u->Q u s'):wpAny (model X.prog X.w) A (getAttr (.ref a) f b) Q E s:=by
 obtain⟨mA,O,r,_,_,_⟩:=jv I.hok e;obtain⟨u,hu,ru⟩:=dq.some_of (v:=v) (o:=mA f) (by rw[<-l];exact r f);exact aa0 I.kIn O (c.get f) c.hd n hu (mK ru) (h u _ (I.tok _) ru)
theorem jE {m:Str}{g:Addr}{Q:Value×List Value->Shared->Prop}(I:Inv X pins σ H s)(e:H a=some (.ins C dx fs))(c:wm X.K C)(k:Meth X.K C m g)(l:fs.lookup m=none)
 (h:Q (.ref g,[.ref a]) s):wpAny (model X.prog X.w) A (getMethod (.ref a) m pl) Q E s:=by
 obtain⟨mA,O,r,_,_,_⟩:=jv I.hok e;have hn:mA m=none:=dq.none_of (by rw[<-l];exact r m);exact aaO I.kIn O (c.get m) k.at_ k.fn hn h
theorem acy {Q:Unit->Shared->Prop}(I:Inv X pins σ H s)(e:H a=some (.ins C dx fs))(c:wm X.K C)(n:cu X.K C f)(hl:fs.length<1000)(ry:aC y u)
 (h:∀s',Inv X pins σ (upd H a (.ins C dx (dJ f y fs))) s'->Q () s'):wpAny (model X.prog X.w) A (setAttr (.ref a) f u) Q E s:=by
 obtain⟨mA,O,r,wi,_,ho⟩:=jv I.hok e
 have hz:(fs.map (·.1)).length<=sizeLine:=by rw[List.length_map,sizeLine_eq];omega
 refine abL I.kIn O c.sa c.po n.acn c.hd wi hz λh' O' sb=>h _ ?_;have hd:∃o,h'.get? dx=some o:=let⟨o,_,_,e',_⟩:=O'.ns;⟨o,e'⟩;refine I.write (x:=a) (e:=dx) (by rw[e];exact True.intro) (.inr ho) (λb q hb z=>(sb.2 b hb).trans z) hd ?_;refine⟨by rw[ai O.ne];exact ho,?_,O.ne,O'.obj,_,O'.ns,λg=>?_,λg hg=>?_⟩
 ·have:=ja f y fs;omega
 ·show dq ((dJ f y fs).lookup g) (if g=f then some u else mA g);rw[jb]
  by_cases q:g=f
  ·rw[if_pos q,if_pos q];exact ry
  ·rw[if_neg q,if_neg q];exact r g
 ·by_cases q:g=f
  ·rw[q];exact(iO f y fs).1
  ·refine(iO f y fs).2 g (wi g λz=>hg ?_);show(if g=f then some u else mA g)=none;rw[if_neg q];exact z
theorem Inv.made (I:Inv X pins σ H s):Inv X pins σ (upd (upd H s.heap.objs.size (.own (s.heap.objs.size+1))) (s.heap.objs.size+1) (.ins C s.heap.objs.size []))
 {s with heap:=(s.heap.push PySem.W.emptyDict).push (PySem.W.instObj C s.heap.objs.size)}:=by
 have e1:(s.heap.push PySem.W.emptyDict).get? s.heap.objs.size=some PySem.W.emptyDict:=Heap.get?_push_size s.heap rfl
 have e2:((s.heap.push PySem.W.emptyDict).push (PySem.W.instObj C s.heap.objs.size)).get? (s.heap.objs.size+1)=some (PySem.W.instObj C s.heap.objs.size):=by
  have:=Heap.get?_push_size (s.heap.push PySem.W.emptyDict) (o:=PySem.W.instObj C s.heap.objs.size) rfl;rwa[Heap.size_push] at this
 have e3:(s.heap.push PySem.W.emptyDict).Ns s.heap.objs.size (λ_=>none):=⟨PySem.W.emptyDict,#[],_,e1,rfl,(λe he=>absurd he (by simp)),λ_=>rfl⟩;have I1:=I.laid (a:=s.heap.objs.size) (o:=.own (s.heap.objs.size+1)) (h':=s.heap.push PySem.W.emptyDict) (t':=s.toks) (λb u q=>Heap.get?_push_of_some _ q) (Nat.le_refl _) ⟨_,e1⟩;refine I1.laid (a:=s.heap.objs.size+1) (o:=.ins C s.heap.objs.size []) (t':=s.toks) (λb u q=>Heap.get?_push_of_some _ q) (Nat.le_of_eq (Heap.size_push _ _)) ?_;have ne:s.heap.objs.size≠s.heap.objs.size+1:=Nat.ne_of_lt (Nat.lt_succ_self _);refine⟨by rw[ai ne,ae],Nat.zero_le _,ne,e2,λ_=>none,(Heap.Ns1.of_empty e3).at λo q=>Heap.get?_push_of_some _ q,λ_=>True.intro,λy hy=>absurd rfl hy⟩
theorem uk {prog:vQ}{env:Env}{f:Str}{s:Fp}{Q:yg}(hb:attributeBase e f env (eval e env)=eval e env)
 (h:wpAny (model prog w) A (eval e env) (λo s₁=>wpAny (model prog w) A (getAttr o f true) Q E s₁) E s):wpAny (model prog w) A (eval (.Attribute e f pos) env) Q E s :=
 Attribute_any_ h (by rw[arm_eval_Attribute,hb])
end
noncomputable def abq (K:PySem.W.Frag)(ta:TE)(f:Str):TE:=λσ H Q=>ta σ H λx H1=>∃a C dx fs v,x=.ref a/\H1 a=some (.ins C dx fs)/\wm K C/\cu K C f/\fs.lookup f=some v/\Q v H1
noncomputable def acF (K:PySem.W.Frag)(ta tv:TE)(f:Str):TS:=λD σ H=>tv σ H λy H1=>ta σ H1 λx H2=>∃a C dx fs,x=.ref a/\H2 a=some (.ins C dx fs)/\wm K C/\cu K C f/\fs.length<1000 /\
 D.nx σ (upd H2 a (.ins C dx (dJ f y fs)))
section
variable {X:Cx}{o e value:Expr}{f:Str}{pos pos' P9:Pos}{ta tv:TE}
theorem dX (he:PE X e ta)(hb:attributeBase e f X.env (eval e X.env)=eval e X.env):PE X (.Attribute e f pos) (abq X.K ta f):=by
 intro pins s σ H Q I h;refine uk hb (bp (he pins s σ H _ I h) λu s1 z'=>?_);obtain⟨x,H1,I1,rx,a,C,dx,fs,v,ex,ea,c,n,l,q⟩:=z';subst ex;obtain rfl:u=Value.ref a:=rx;exact acp I1 ea c n l λu' s2 I2 ru=>⟨v,H1,I2,ru,q⟩
theorem rF (ha:PE X o ta)(hv:PE X value tv)(hs:swapsWith value (some (.Attribute o f pos')) pos.line X.env=pure false):PS X (.Assign [.Attribute o f pos'] value pos) (acF X.K ta tv f):=by
 intro pins s σ H D I h;refine plainObj_wpAny_Assign_Attribute (bp (hv pins s σ H _ I h) λu s1 ⟨y,H1,I1,ry,q⟩=>bp (ha pins s1 σ H1 _ I1 q) λov s2 z'=>?_) hs;obtain⟨x,H2,I2,rx,a,C,dx,fs,ex,ea,c,n,l,q2⟩:=z';subst ex;obtain rfl:ov=Value.ref a:=rx;exact acy I2 ea c n l ry λs3 I3=>⟨σ,_,I3,q2⟩
end
section
variable {X:Cx}{pins:List (Addr×Obj)}{σ:St}{H:Hp}{s:Fp}{A:Around}{E:yg}{Q:yg}{c:Value}{b:Bool}
inductive BP (K:PySem.W.Frag)(H:Hp):V->Value->Prop where
 |non:BP K H .non (.type "NoneType")
 |bl (x:Bool):BP K H (.bl x) (.type "bool")
 |int (i:Int):BP K H (.int i) (.type "int")
 |str (x:Str):BP K H (.str x) (.type "str")
 |flt (x:UInt64):BP K H (.flt x) (.type "float")
 |lst {a:Addr}{xs:List V}(e:H a=some (.lst xs)):BP K H (.ref a) (.type "list")
 |frz {a:Addr}{o:Obj}{xs:List V}(e:H a=some (.frz o (.lst xs))):BP K H (.ref a) (.type "list")
 |tup {a:Addr}{xs:List V}(e:H a=some (.tup xs)):BP K H (.ref a) (.type "tuple")
 |dK {a:Addr}{FF:List (Key×V)}(e:H a=some (.dK FF)):BP K H (.ref a) (.type "dict")
 |dT {a:Addr}{FF:List (List Key×V)}(e:H a=some (.dT FF)):BP K H (.ref a) (.type "dict")
 |ins {a C dx:Addr}{fs:List (Str×V)}(e:H a=some (.ins C dx fs))(cl:wm K C)(ha:PySem.W.findIn K (.ref C) "__class__"=some (some (.builtin "object.__class__")))
  (hn:PySem.W.specialIn K (.builtin "object.__class__") "__get__"=some (some (.builtin "getset_descriptor.__get__")))(TJ:PySem.W.takesIn K (.builtin "object.__class__")=some true)
  (hm:PySem.W.mroIn K C (.type "object")=some true):BP K H (.ref a) (.ref C)
theorem acG {x:V}{t:Value}(I:Inv X pins σ H s)(rx:aC x u)(ty:BP X.K H x t)(e:PySem.W.kitOne X.K t c=some b)(h:∀tk,Q (.bool b) {s with toks:=tk}):
 wpAny (model X.prog X.w) A (call (.builtin "isinstance") [u,c]) Q E s:=by
 cases ty with
 |non=>cases(show u=Value.none from rx);exact PySem.W.kia_one PySem.W.kitx_none I.kIn True.intro e (λz=>nomatch z) h
 |bl y=>cases(show u=Value.bool y from rx);exact PySem.W.kia_one PySem.W.kitx_bool I.kIn True.intro e (λz=>nomatch z) h
 |int i=>obtain⟨t,q⟩:=(show ∃t,u=Value.int i t from rx);cases q;exact PySem.W.kia_one PySem.W.kitx_int I.kIn True.intro e (λz=>nomatch z) h
 |str y=>obtain⟨t,q⟩:=(show ∃t,u=Value.str y t from rx);cases q;exact PySem.W.kia_one PySem.W.kitx_str I.kIn True.intro e (λz=>nomatch z) h
 |flt y=>obtain⟨t,q⟩:=(show ∃t,u=Value.float y t from rx);cases q;exact PySem.W.kia_one PySem.W.kitx_float I.kIn True.intro e (λz=>nomatch z) h
 |@lst a xs ea =>
  cases(show u=Value.ref a from rx)
  obtain⟨_,_,n,_,h1⟩:=(show ba X.prog X.w H s.heap a (.lst xs) from I.hok a _ ea);exact PySem.W.kia_one PySem.W.kitx_list I.kIn ⟨_,h1,rfl⟩ e (λz=>nomatch z) h
 |@frz a ob xs ea =>
  cases(show u=Value.ref a from rx)
  obtain⟨_,_,_,n,_,h1⟩:=(show ba X.prog X.w H s.heap a (.frz ob (.lst xs)) from I.hok a _ ea);exact PySem.W.kia_one PySem.W.kitx_list I.kIn ⟨_,h1,rfl⟩ e (λz=>nomatch z) h
 |@tup a xs ea =>
  cases(show u=Value.ref a from rx)
  obtain⟨_,_,_,p⟩:=(show ba X.prog X.w H s.heap a (.tup xs) from I.hok a _ ea);obtain⟨o,h1,h2,_⟩:=p;exact PySem.W.kia_one PySem.W.kitx_tuple I.kIn ⟨o,h1,h2⟩ e (λz=>nomatch z) h
 |@dK a FF ea =>
  cases(show u=Value.ref a from rx)
  obtain⟨_,_,vs,_,p⟩:=(show ba X.prog X.w H s.heap a (.dK FF) from I.hok a _ ea);obtain⟨o,es,ep,h1,h2,_⟩:=p;exact PySem.W.kia_one PySem.W.kitx_dict I.kIn ⟨o,h1,h2.1⟩ e (λz=>nomatch z) h
 |@dT a FF ea =>
  cases(show u=Value.ref a from rx)
  obtain⟨_,_,xs,_,o,es,ep,h1,h2,_⟩:=(show ba X.prog X.w H s.heap a (.dT FF) from I.hok a _ ea);exact PySem.W.kia_one PySem.W.kitx_dict I.kIn ⟨o,h1,h2.1⟩ e (λz=>nomatch z) h
 |@ins a C dx fs ea cl ha hn TJ hm =>
  cases(show u=Value.ref a from rx)
  obtain⟨mA,O,_⟩:=jv I.hok ea;obtain⟨od,J,_⟩:=O.look;exact PySem.W.kia_one (PySem.W.kitx_own (cl.get _) cl.hd ha hn TJ hm) I.kIn J e (λz=>nomatch z) h
end
structure om (k:Nat)(A:Around):Prop where
 hd:A.handled=none
 dp:A.depth+3*k+5<recursionLimit
 un:A.units+16*k+200<cLine
 gd:A.guards=some []
theorem om.mono {j:Nat}(r:om k A)(h:j<=k):om j A:=⟨r.hd,by have:=r.dp;omega,by have:=r.un;omega,r.gd⟩
theorem om.deeper (r:om (k+1) A)(env:Env):om k (A.deeper env):=
 ⟨r.hd,by have:=r.dp;show A.depth+1+3*k+5<_;omega,by have:=r.un;show A.units+3+16*k+200<_;omega,r.gd⟩
theorem om.in1 (r:om (k+1) A):om k A.in1 :=
 ⟨r.hd,by have:=r.dp;show A.depth+3*k+5<_;omega,by have:=r.un;show A.units+1+16*k+200<_;omega,r.gd⟩
theorem acH :(A.under (.builtin "type.__call__" ⟨.ref C::us,kw⟩)).depth=A.depth+1:=by
 first|rfl|simp[Around.under,Code.weight,Code.isCreation,Code.isGuard,Code.isCaller,Code.frames,Code.isFrame,guardIds]
theorem acI :(A.under (.builtin "type.__call__" ⟨.ref C::us,kw⟩)).guards=A.guards:=by
 first|rfl|simp[Around.under,Code.guards,Code.isGuard,guardIds,pushGuards]
theorem acJ :(A.under (.builtin "type.__call__" ⟨.ref C::us,kw⟩)).units=A.units+1:=by
 first|rfl|simp[Around.under,Code.cUnits,Code.frames,Code.isFrame]
theorem om.make (r:om (k+1) A)(C:Addr)(us:qw)(kw:List (Str×Value)):om k (A.under (.builtin "type.__call__" ⟨.ref C::us,kw⟩)):=
 ⟨r.hd,by have:=r.dp;rw[acH];omega,by have:=r.un;rw[acJ];omega,by rw[acI];exact r.gd⟩
theorem om.depth (r:om k A):A.depth<recursionLimit:=by have:=r.dp;omega
theorem om.units (r:om k A):A.units+64<cLine:=by have:=r.un;omega
theorem om.ab9 (r:om k A):A.units<cLine:=by have:=r.un;omega
noncomputable def E1:TA:=λ_ H Q=>Q [] H
noncomputable def eC (ta:TE)(tr:TA):TA:=λσ H Q=>ta σ H λx H1=>tr σ H1 λxs H2=>Q (x::xs) H2
section
variable {X:Cx}{e:Expr}{es:Bo}{te:TE}{t:TA}{pos:Pos}
theorem ah:PA X [] E1:=λ_ _ _ _ H Q I h=>Calls.spliced_nil ⟨[],H,I,.nil,h⟩
theorem aW (ha:PE X e te)(hr:PA X es t)(hs:starEach (e::es) X.env=(false,eval e X.env):: starEach es X.env:=by rfl):PA X (e::es) (eC te t):=by
 intro pos pins s σ H Q I h;rw[hs];show wpAny _ _ (spliced ((false,eval e X.env):: backTo pos (starEach es X.env))) _ _ s;refine Calls.spliced_cons (bp (ha pins s σ H _ I h) λu s1 z'=>?_);obtain⟨x,H1,I1,r1,q1⟩:=z';exact bp (hr pos pins s1 σ H1 _ I1 q1) λus s2 ⟨xs,H2,I2,r2,q2⟩=>⟨x::xs,H2,I2,.cons r1 r2,q2⟩
noncomputable def CS (t:TA):TE:=λσ H Q=>t σ H λxs H1=>xs.length<=sizeLine/\∀p,H1 p=none->Q (.ref p) (upd H1 p (.tup xs))
noncomputable def Dl (t:TA):TE:=λσ H Q=>t σ H λxs H1=>xs.length<=sizeLine/\∀p,H1 p=none->Q (.ref p) (upd H1 p (.lst xs))
theorem bx {x1}(h:PA X es t):PE X (.Tuple es x1 pos) (CS t):=by
 intro pins s σ H Q I hq;refine wpAny_Tuple_spliced (bp (h pos pins s σ H _ I hq) λus s1 ⟨xs,H1,I1,r,z,q⟩=>⟨by rw[<-r.length];exact z,?_⟩);have hf:H1 s1.heap.objs.size=none:=I1.hok.fresh (Nat.le_refl _);refine⟨.ref s1.heap.objs.size,upd H1 s1.heap.objs.size (.tup xs),I1.laid (t':=s1.toks) (λb u e=>Heap.get?_push_of_some _ e) (Nat.le_refl _) ?_,rfl,q _ hf⟩;exact⟨z,us,r,⟨_,Heap.get?_push_size _ rfl,rfl,_,rfl⟩⟩
theorem cD (h:PA X es t):PE X (.List es pos) (Dl t):=by
 intro pins s σ H Q I hq;refine wpAny_List_spliced (bp (h pos pins s σ H _ I hq) λus s1 ⟨xs,H1,I1,r,z,q⟩=>⟨by rw[<-r.length];exact z,?_⟩);have hf:H1 s1.heap.objs.size=none:=I1.hok.fresh (Nat.le_refl _);refine⟨.ref s1.heap.objs.size,upd H1 s1.heap.objs.size (.lst xs),I1.laid (t':=s1.toks) (λb u e=>Heap.get?_push_of_some _ e) (Nat.le_refl _) ?_,rfl,q _ hf⟩;exact⟨z,us,0,r,Heap.get?_push_size _ rfl⟩
end
noncomputable abbrev Sp:=List V->Hp->VK->XK->Prop
noncomputable abbrev AP:=List Env->Hp->Shared->XK->Value->Shared->Prop
structure BZ (P:vQ)(w:World)(K:PySem.W.Frag)(mg:FA)(base:Heap)(A:Around)(outer:List Env)(s:Fp)(H:Hp):Prop where
 frames:A.frames=some outer
 mod:Mod K mg base
 bs:∀b o,base.get? b=some o->s.heap.get? b=some o/\H b=none
 bsz:base.objs.size<=s.heap.objs.size
 aaF:s.heap.FunFrames base outer
 frf:∀b∈cW outer,H b=none
 hok:dM P w H s.heap
 bare:AllBare s.gens
noncomputable def CE (outer:List Env)(P:vQ)(w:World)(H:Hp)(s:Fp)(Q:VK)(u:Value)(s':Fp):Prop :=
 ∃v H',s'.os=s.os/\AllBare s'.gens/\Un (cW outer) [] H H' s.heap s'.heap/\dM P w H' s'.heap/\aC v u/\Q v H'
noncomputable def CR (CX:AP)(outer:List Env)(P:vQ)(w:World)(H:Hp)(s:Fp)(Q:VK)(E:XK)(r:Result)(s':Fp):Prop :=
 match r with
 | .ok (.ret u)=>CE outer P w H s Q u s'
 | .ok _=>False
 | .error e=>CX outer H s E e s'
structure Bu (P:vQ)(w:World)(K:PySem.W.Frag)(mg:FA)(base:Heap)(CX:AP)(k:Nat)(f:Addr)(fd:ET)(ps:wk)(sp:Sp):Prop where
 len:∀vs H Q E,sp vs H Q E->vs.length=ps.length
 run:∀(A:Around)(outer:List Env)(s:Fp)(H:Hp)(args:Args)(us:qw)(vs:List V)(Q:VK)(E:XK),om k A->BZ P w K mg base A outer s H->BindsTo s fd args (ps.zip us)->aG vs us->sp vs H Q E →
  codeAny (model P w) A (.call (.ref f) args) (CR CX outer P w H s Q E) s
variable {mg:FA}{base:Heap}{outer:List Env}
theorem BZ.make (e:BZ P w K mg base A outer s H)(C:Addr)(us:qw)(kw:List (Str×Value)):
 BZ P w K mg base (A.under (.builtin "type.__call__" ⟨.ref C::us,kw⟩)) outer s H:=⟨by first|exact e.frames|(simpa[Around.under,Code.envs,Code.isFrame,pushEnvs] using e.frames),e.mod,e.bs,e.bsz,e.aaF,e.frf,e.hok,e.bare⟩
theorem BZ.in1 (e:BZ P w K mg base A outer s H):
 BZ P w K mg base A.in1 outer s H:=⟨e.frames,e.mod,e.bs,e.bsz,e.aaF,e.frf,e.hok,e.bare⟩
section
variable {X:Cx}{pins:List (Addr×Obj)}{σ:St}{H:Hp}{s s':Fp}
theorem Inv.abJ (I:Inv X pins σ H s):BZ X.prog X.w X.K X.mg X.base X.A X.stack s H :=
 ⟨I.ok.frames,I.ok.mod,I.bs,Nat.le_trans I.ok.bsz I.sz,I.stack,I.aaP,I.hok,I.bare⟩
theorem Inv.after (I:Inv X pins σ H s)(h:CE X.stack X.prog X.w H s Q u s'):EP X pins σ Q u s':=by
 obtain⟨v,H',os,bare,un,hok,r,q⟩:=h;obtain⟨hh,g,d,t,VW⟩:=s';obtain rfl:VW=s.os:=os;exact⟨v,H',I.call (h':=hh) (g':=g) (d':=d) (t':=t) (ch:=[]) un hok bare (λb z=>absurd z (by simp)),r,q⟩
end
noncomputable def AY (sp:Sp)(Gd:List V)(E:XK)(t:TA):TE:=λσ H Q=>t σ H λvs H1=>sp (vs++Gd) H1 Q E
noncomputable def xb (C:Addr)(m:Str)(sp:Sp)(Gd:List V)(E:XK)(ta:TE)(t:TA):TE:=λσ H Q=>ta σ H λx H1=>∃a dx fs,x=.ref a/\H1 a=some (.ins C dx fs)/\fs.lookup m=none /\
 t σ H1 λvs H2=>sp (x::(vs++Gd)) H2 Q E
noncomputable def acK (C:Addr)(sp:Sp)(Gd:List V)(E:XK)(t:TA):TE:=λσ H Q=>t σ H λvs H1=>∀x dx,H1 x=none->H1 dx=none->dx≠x →
 sp (.ref x::(vs++Gd)) (upd (upd H1 dx (.own x)) x (.ins C dx [])) (λv H2=>v=.non/\Q (.ref x) H2) E
noncomputable def aA (K:PySem.W.Frag)(fd:ET)(ps:wk)(ds:qw):Prop :=
 ∀(s:Fp)(us:qw),K.In s.heap->(us++ds).length=ps.length->BindsTo s fd ⟨us,[]⟩ (ps.zip (us++ds))
variable {ps:wk}
theorem aA.all {fd:ET}(h:∀us:List Value,us.length=ps.length->bindArgs fd ⟨us,[]⟩=pure (ps.zip us)):aA K fd ps []:=λs us _ hl=>by
 rw[List.append_nil] at hl |-;exact .of_eq (h us hl)
noncomputable def d3 (CX:AP)(X:Cx)(E:XK):Prop:=∀(pins:List (Addr×Obj))(σ:St)(H:Hp)(s:Fp)(e:Value)(s':Fp),Inv X pins σ H s->CX X.stack H s E e s'->X.xe e s'
section
variable {X:Cx}{CX:AP}{k:Nat}{f C:Addr}{fd:ET}{ps:wk}{sp:Sp}{Gd:List V}{ds:qw}{E:XK}{x m:Str}{p pos apos:Pos}{e o:Expr}{es:Bo}{ta:TE}{t:TA}
theorem qy {us:qw}{vs:List V}(F:Bu X.prog X.w X.K X.mg X.base CX k f fd ps sp)(hr:om k X.A)(hb:aA X.K fd ps ds)(hd:aG Gd ds)(hx:d3 CX X E)
 (I:Inv X pins σ H s)(r:aG vs us)(h:sp (vs++Gd) H Q E):wpAny (model X.prog X.w) X.A (call (.ref f) us) (EP X pins σ Q) X.xe s:=by
 have r2:aG (vs++Gd) (us++ds):=r.append hd
 have hl:(us++ds).length=ps.length:=by rw[<-r2.length];exact F.len _ _ _ _ h
 refine wpAny_call (codeAny_mono (F.run X.A X.stack s H ⟨us,[]⟩ (us++ds) (vs++Gd) Q E hr I.abJ (hb s us I.kIn hl) r2 h) λr s' hq=>?_)
 cases r with
 |error e=>exact hx pins σ H s e s' I hq
 |ok fl =>
  cases fl with
  |ret u=>exact I.after hq
  |next=>exact False.elim hq
  |brk=>exact False.elim hq
  |cont=>exact False.elim hq
theorem ax (F:Bu X.prog X.w X.K X.mg X.base CX k f fd ps sp)(hr:om k X.A)(hg:Gl X x)(hm:X.mg x=some (.ref f))(hk:PySem.W.keepIn X.K (.ref f)=true)(hb:aA X.K fd ps ds)(hd:aG Gd ds)(hx:d3 CX X E)
 (ha:PA X (e::es) t)(GY:(x==("__debug__":Str))=false:=by decide)(he:starEach (e::es) X.env=(false,eval e X.env):: starEach es X.env:=by rfl)(Gw:(backTo pos (starEach es X.env)).any (·.1)=false:=by rfl):
 PE X (.Call (.Name x p) (e::es) [] pos) (AY sp Gd E t):=by
 intro pins s σ H Q I h;refine wpAny_Call_Name_kw (dz I hg hm ?_ GY);refine PySem.W.callWith_K (h₀:=X.base) I.ok.mod.kin hk (bp (ha pos pins s σ H _ I h) λus s1 ⟨vs,H1,I1,r,q⟩=>⟨I1.kIn,?_⟩) he Gw;exact qy F hr hb hd hx I1 r q
theorem il (he:PE X o ta)(c:wm X.K C)(hm:Meth X.K C m f)(F:Bu X.prog X.w X.K X.mg X.base CX k f fd ps sp)(hr:om k X.A)(hb:aA X.K fd ps ds)(hd:aG Gd ds)(hx:d3 CX X E)(ha:PA X (e::es) t)
 (HI:starEach (e::es) X.env=(false,eval e X.env):: starEach es X.env:=by rfl)(Gw:(backTo pos (starEach es X.env)).any (·.1)=false:=by rfl)
 (ht:eval (.Call (.Attribute o m apos) (e::es) [] pos) X.env=(do
  let ov <-eval o X.env
  standAt apos.atName
  let(f,first) <-holding [ov] (getMethod ov m pl)
  callWith pos f first (backTo pos (starEach (e::es) X.env)) (backToKw pos (keywordEach [] X.env))):=by rfl):
 PE X (.Call (.Attribute o m apos) (e::es) [] pos) (xb C m sp Gd E ta t):=by
 intro pins s σ H Q I h;refine PySem.W.methodCall_KW (pl:=pl) (bp (he pins s σ H _ I h) λu s1 z'=>?_) ht;obtain⟨x,H1,I1,rx,a,dx,fs,ex,ea,l,q⟩:=z';subst ex;obtain rfl:u=Value.ref a:=rx;refine jE I1 ea c hm l ?_;refine PySem.W.callWith_K (first:=[.ref a]) (h₀:=X.base) I.ok.mod.kin hm.kp (bp (ha pos pins s1 σ H1 _ I1 q) λus s2 ⟨vs,H2,I2,r,q2⟩=>⟨I2.kIn,?_⟩) HI Gw;exact qy (us:=.ref a::us) (vs:=.ref a::vs) F hr hb hd hx I2 (.cons rfl r) q2
theorem f9 (he:PE X o ta)(c:wm X.K C)(hm:Meth X.K C m f)(F:Bu X.prog X.w X.K X.mg X.base CX k f fd ps sp)(hr:om k X.A)(hb:aA X.K fd ps ds)(hd:aG Gd ds)(hx:d3 CX X E)
 (ht:eval (.Call (.Attribute o m apos) [] [] pos) X.env=(do
  let ov <-eval o X.env
  standAt apos.atName
  let(f,first) <-holding [ov] (getMethod ov m pl)
  callWith pos f first (backTo pos (starEach [] X.env)) (backToKw pos (keywordEach [] X.env))):=by rfl):
 PE X (.Call (.Attribute o m apos) [] [] pos) (xb C m sp Gd E ta E1):=by
 intro pins s σ H Q I h;refine PySem.W.methodCall_KW (pl:=pl) (bp (he pins s σ H _ I h) λu s1 z'=>?_) ht;obtain⟨x,H1,I1,rx,a,dx,fs,ex,ea,l,q⟩:=z';subst ex;obtain rfl:u=Value.ref a:=rx;refine jE I1 ea c hm l ?_;exact PySem.W.callWith_K0 (first:=[.ref a]) I1.kIn hm.kp (qy (us:=[.ref a]) (vs:=[.ref a]) F hr hb hd hx I1 (.cons rfl .nil) q)
structure Mk (K:PySem.W.Frag)(C f:Addr):Prop where
 makes:PySem.W.makesIn K C=true
 init:PySem.W.findIn K (.ref C) "__init__"=some (some (.ref f))
 fn:PySem.W.isFn K (.ref f)=true
 kp:PySem.W.keepIn K (.ref C)=true
theorem acL {vs:List V}(M:Mk X.K C f)(F:Bu X.prog X.w X.K X.mg X.base CX k f fd ps sp)(hr:om (k+1) X.A)(hb:aA X.K fd ps ds)(hd:aG Gd ds)
 (hx:d3 CX X E)(I:Inv X pins σ H s)(r:aG vs us)
 (h:∀x dx,H x=none->H dx=none->dx≠x->sp (.ref x::(vs++Gd)) (upd (upd H dx (.own x)) x (.ins C dx [])) (λv H2=>v=.non/\Q (.ref x) H2) E):
 wpAny (model X.prog X.w) X.A (call (.ref C) us) (EP X pins σ Q) X.xe s:=by
 have hq:=h (s.heap.objs.size+1) s.heap.objs.size (I.hok.fresh (Nat.le_succ _)) (I.hok.fresh (Nat.le_refl _)) (Nat.ne_of_lt (Nat.lt_succ_self _));have I2:=Inv.made (C:=C) I;have r2:aG (V.ref (s.heap.objs.size+1):: (vs++Gd)) (Value.ref (s.heap.objs.size+1):: (us++ds)):=.cons rfl (r.append hd)
 have hl:(Value.ref (s.heap.objs.size+1):: us++ds).length=ps.length:=by
  have e:=r2.length;rw[F.len _ _ _ _ hq] at e;exact e.symm
 refine wpAny_call (acm (f:=f) I.kIn M.makes M.init (beq_iff_eq.mp M.fn) (codeAny_mono (F.run _ X.stack _ _ ⟨Value.ref (s.heap.objs.size+1):: us,[]⟩ (Value.ref (s.heap.objs.size+1):: (us++ds)) _ _ E (hr.make C us [])
  (I2.abJ.make C us []) (hb _ (Value.ref (s.heap.objs.size+1):: us) I2.kIn hl) r2 hq) λr s' Ip=>?_))
 cases r with
 |error e=>exact hx pins σ _ _ e s' I2 Ip
 |ok fl =>
  cases fl with
  |ret u =>
   obtain⟨v,H',I3,rv,ev,q3⟩:=I2.after Ip;subst ev;exact⟨rv,⟨V.ref (s.heap.objs.size+1),H',I3,rfl,q3⟩⟩
  |next=>exact False.elim Ip
  |brk=>exact False.elim Ip
  |cont=>exact False.elim Ip
theorem sY (M:Mk X.K C f)(F:Bu X.prog X.w X.K X.mg X.base CX k f fd ps sp)(hr:om (k+1) X.A)(hg:Gl X x)(hm:X.mg x=some (.ref C))(hb:aA X.K fd ps ds)(hd:aG Gd ds)(hx:d3 CX X E)
 (ha:PA X (e::es) t)(GY:(x==("__debug__":Str))=false:=by decide)(he:starEach (e::es) X.env=(false,eval e X.env):: starEach es X.env:=by rfl)(Gw:(backTo pos (starEach es X.env)).any (·.1)=false:=by rfl):
 PE X (.Call (.Name x p) (e::es) [] pos) (acK C sp Gd E t):=by
 intro pins s σ H Q I h;refine wpAny_Call_Name_kw (dz I hg hm ?_ GY);refine PySem.W.callWith_K (h₀:=X.base) I.ok.mod.kin M.kp (bp (ha pos pins s σ H _ I h) λus s1 ⟨vs,H1,I1,r,q⟩=>⟨I1.kIn,?_⟩) he Gw;exact acL M F hr hb hd hx I1 r q
end
structure uZ (N P:wk)(sc:Scope):Prop where
 kind:sc.kind=.function
 co:sc.isCoroutine=false
 gen:sc.isGenerator=false
 nd:N.Nodup
 pre:N.take P.length=P
 par:∀x∈P,sc.names.lookup x=some .local\/sc.names.lookup x=some .cell
 aca:∀y∈sc.names,y.2≠.free
theorem d8 {P:wk}{sc:Scope}(h:sc.kind=.function/\sc.isCoroutine=false/\sc.isGenerator=false/\N.Nodup/\N.take P.length=P/\(∀x∈P,sc.names.lookup x=some .local\/sc.names.lookup x=some .cell)/\∀y∈sc.names,y.2≠.free):uZ N P sc:=⟨h.1,h.2.1,h.2.2.1,h.2.2.2.1,h.2.2.2.2.1,h.2.2.2.2.2.1,h.2.2.2.2.2.2⟩
variable {kindOf:Str->Option NameKind}
theorem lP :∀{binds:List (Str×Value)}{m:FA},(∀v,(x,v)∉binds)->bindL kindOf binds m x=m x
 |[],_,_=>rfl
 |(n,v):: r,m,h=>by
  unfold bindL;rw[lP λw hw=>h w (List.mem_cons_of_mem _ hw)]
  split
  ·have:x≠n:=by rintro rfl;exact h v List.mem_cons_self
   simp[this]
  ·rfl
theorem mD :∀{binds:List (Str×Value)}{m:FA},(∀v,(x,v)∉binds)->bindC kindOf binds m x=m x
 |[],_,_=>rfl
 |(n,v):: r,m,h=>by
  unfold bindC;rw[mD λw hw=>h w (List.mem_cons_of_mem _ hw)]
  split
  ·rfl
  ·have:x≠n:=by rintro rfl;exact h v List.mem_cons_self
   simp[this]
theorem mY {v:Value}:∀{P:wk}{vs:qw}{i:Nat}{m:FA},P.Nodup->P[i]?=some x->vs[i]?=some v->kindOf x=some .local →
 bindL kindOf (P.zip vs) m x=some v
 |[],_,_,_,_,h,_,_=>by simp at h
 |_::_,[],_,_,_,_,h,_=>by simp at h
 |p::P,w::vs,0,m,nd,h1,h2,hk=>by
  simp at h1 h2;subst h1;subst h2;show bindL kindOf ((p,w):: P.zip vs) m p=_;unfold bindL;rw[lP λv hv=>(List.nodup_cons.mp nd).1 (List.of_mem_zip hv).1,if_pos hk];simp
 |p::P,w::vs,i+1,m,nd,h1,h2,hk=>by
  show bindL kindOf ((p,w):: P.zip vs) m x=_;unfold bindL;exact mY (i:=i) (List.nodup_cons.mp nd).2 (by simpa using h1) (by simpa using h2) hk
theorem mw {v:Value}:∀{P:wk}{vs:qw}{i:Nat}{m:FA},P.Nodup->P[i]?=some x->vs[i]?=some v->kindOf x≠some .local →
 bindC kindOf (P.zip vs) m x=some v
 |[],_,_,_,_,h,_,_=>by simp at h
 |_::_,[],_,_,_,_,h,_=>by simp at h
 |p::P,w::vs,0,m,nd,h1,h2,hk=>by
  simp at h1 h2;subst h1;subst h2;show bindC kindOf ((p,w):: P.zip vs) m p=_;unfold bindC;rw[mD λv hv=>(List.nodup_cons.mp nd).1 (List.of_mem_zip hv).1,if_neg hk];simp
 |p::P,w::vs,i+1,m,nd,h1,h2,hk=>by
  show bindC kindOf ((p,w):: P.zip vs) m x=_;unfold bindC;exact mw (i:=i) (List.nodup_cons.mp nd).2 (by simpa using h1) (by simpa using h2) hk
noncomputable def fR (N:wk)(vs:List V):St:=vs.map some++List.replicate (N.length-vs.length) none
noncomputable def dw (CX:AP)(P:vQ)(w:World)(K:PySem.W.Frag)(mg:FA)(base:Heap)(N:wk)(qual:Str)(scope:Scope)(f:Addr)(cd:Value)(A:Around)(outer:List Env)(s:Fp)(H:Hp)(E:XK):Cx where
 prog:=P
 w:=w
 K:=K
 mg:=mg
 base:=base
 A:=A.deeper (envOfC qual scope s.heap.objs.size f cd)
 N:=N
 s₀:=s
 H₀:=H
 env:=envOfC qual scope s.heap.objs.size f cd
 outer:=outer
 stack:=envOfC qual scope s.heap.objs.size f cd::outer
 ex:=[]
 calm:=true
 fn:=λ_=>true
 pn:=[]
 xe:=λe s'=>wpAny (model P w) (A.deeper (envOfC qual scope s.heap.objs.size f cd)) (leaving (envOfC qual scope s.heap.objs.size f cd) e) (λ_ Iq=>CX outer H s E e Iq) (λe' Iq=>CX outer H s E e' Iq) s'
theorem pR {sc:Scope}{n:Nat}(h:sc.names.lookup x=some .cell):∃c,(cellsFrom n sc.names []).lookup x=some c:=by
 have q:=PySem.W.cellsFrom_some sc.names n [] (.inl h);exact Option.isSome_iff_exists.mp q
theorem acM {CX:AP}{qual:Str}{scope:Scope}{f:Addr}{cd:Value}{s1:Fp}{E:XK}{vs:List V}
 (S:uZ N ps scope)(hd:A.handled=none)(e0:BZ P w K mg base A outer s H)(hl:vs.length=ps.length)(r:aG vs us)
 (x:InCallC s s.heap.objs.size (bindL (envOfC qual scope s.heap.objs.size f cd).kindOf (ps.zip us) λ_=>none) (cellsFrom (s.heap.objs.size+1) scope.names []) (bindC (envOfC qual scope s.heap.objs.size f cd).kindOf (ps.zip us) λ_=>none) s1):
 Inv (dw CX P w K mg base N qual scope f cd A outer s H E) [] (fR N vs) H s1:=by
 have Gw:ps.length<=N.length:=by have:=congrArg List.length S.pre;rw[List.length_take] at this;omega
 obtain⟨h1,tk,rfl,hk⟩:=x.done;have noA:∀b:Addr,b∉(dw CX P w K mg base N qual scope f cd A outer s H E).ex:=λb z=>absurd (show b∈([]:List Addr) from z) (by simp)
 refine⟨⟨e0.mod,S.kind,rfl,rfl,Nat.le_refl _,λy z c h1 h2=>?_,λy hy=>?_,λy c _ h=>?_,λ_=>hd,Around.frames_deeper e0.frames,.inr ⟨rfl,rfl⟩,λb z=>absurd z (noA b),e0.bs,e0.bsz,λb _ _=>noA b,λb z=>absurd z (noA b),e0.aaF,e0.frf⟩,
  rfl,e0.bare,Un.kept hk,⟨_,x.toInCall.ns,λi y v h1 h2 h3=>?_⟩,λy c h=>⟨_,x.cell y c h⟩,e0.hok.fresh (Nat.le_refl _),λy c h=>?_,λp hp=>absurd (show p∈([]:List (Addr×Obj)) from hp) (by simp),e0.hok.kept hk,?_⟩
 ·exact name_of_addr x.apart (PySem.mem_of_lookup h1) (PySem.mem_of_lookup h2)
 ·have hy:scope.names.lookup y=some .cell\/scope.names.lookup y=some .free:=hy
  rcases hy with hy|hy
  ·exact pR hy
  ·exact absurd rfl (S.aca _ (PySem.mem_of_lookup hy))
 ·exact Nat.le_of_lt (x.above y c (PySem.mem_of_lookup h))
 ·have hi:i<vs.length:=by
   unfold fR at h2
   by_cases hi:i<vs.length
   ·exact hi
   ·rw[List.getElem?_append_right (by simpa using hi)] at h2;rw[List.getElem?_replicate] at h2
    split at h2 <;> cases h2
  have ha:vs[i]?=some v:=by
   unfold fR at h2;rw[List.getElem?_append_left (by simpa using hi),List.getElem?_map] at h2
   cases e:vs[i]? with
   |none=>rw[e] at h2;cases h2
   |some a=>rw[e] at h2;cases h2;rfl
  obtain⟨u,hu,rv⟩:=r.get ha
  have hp:ps[i]?=some y:=by
   rw[<-S.pre,List.getElem?_take_of_lt (by omega)];exact h1
  have TK:ps.Nodup:=by rw[<-S.pre];exact S.nd.sublist (List.take_sublist _ _)
  refine⟨u,rv,?_⟩
  rcases S.par y (List.mem_of_getElem? hp) with k|k
  ·exact .inl ⟨k,mY TK hp hu k⟩
  ·obtain⟨c,e⟩:=pR (n:=s.heap.objs.size+1) k;refine .inr ⟨.inl k,c,e,?_⟩;have q:=x.cell y c e;rw[mw TK hp hu (by show scope.names.lookup y≠_;rw[k];decide)] at q;exact q
 ·exact e0.hok.fresh (Nat.le_of_lt (x.above y c (PySem.mem_of_lookup h)))
 ·unfold fR;show _=N.length;rw[List.length_append,List.length_map,List.length_replicate];omega
theorem tE {CX:AP}{f:Addr}{name qual:Str}{params:Arguments}{scope:Scope}{dV kV doc pm FJ ct oc:Value}{an od:CC}
 {F0:DP}{sp:Sp}(lk:K.lookup f=some ⟨oc,od,.func (PySem.W.fnOf name qual params body scope dV kV doc pm an FJ ct),F0⟩)(Gs:PySem.W.codeIn K FJ qual=true)(S:uZ N ps scope)
 (len:∀vs H Q E,sp vs H Q E->vs.length=ps.length)
 (F2:∀(A:Around)(outer:List Env)(s:Fp)(H:Hp)(vs:List V)(Q:VK)(E:XK),om k (A.deeper (envOfC qual scope s.heap.objs.size f FJ))->sp vs H Q E →
  ∃t,iE (dw CX P w K mg base N qual scope f FJ A outer s H E) body t/\t {nx:=λ_ H'=>Q .non H',rt:=Q} (fR N vs) H):
 Bu P w K mg base CX (k+1) f (PySem.W.fnOf name qual params body scope dV kV doc pm an FJ ct) ps sp:=by
 refine⟨len,λA outer s H args us vs Q E hr e0 hb r HK=>?_⟩;have hl:=len _ _ _ _ HK;have KX:K.In s.heap:=e0.mod.kin.keeps λb o e=>(e0.bs b o e).1;have lim:s.heap.NoLimit:=e0.mod.nolimit.keeps λb o e=>(e0.bs b o e).1
 have Hi:∀y∈ps.zip us,scope.names.lookup y.1=some .local\/(scope.names.lookup y.1=some .cell/\((cellsFrom (s.heap.objs.size+1) scope.names []).lookup y.1).isSome=true):=λ⟨n,v⟩ hy=>by
  rcases S.par n (List.of_mem_zip hy).1 with q|q
  ·exact .inl q
  ·exact .inr ⟨q,PySem.W.cellsFrom_some _ _ _ (.inl q)⟩
 refine codeAny_call_function hr.depth (KX _ _ lk) rfl S.co S.gen rfl (PySem.W.codeRec_of KX Gs) (hb _ _ _ _ ?_);refine wpAny_newFunctionEnv_cells S.kind Hi λenv he s1 x=>?_;subst he;refine⟨lim.keeps x.toInCall.keep,codeAny_func ?_⟩;obtain⟨t,ht,hq⟩:=F2 A outer s H vs Q E (hr.deeper _) HK;have I:Inv (dw CX P w K mg base N qual scope f FJ A outer s H E) [] (fR N vs) H s1:=acM S hr.hd e0 hl r x;refine wpAny_mono (ht [] s1 (fR N vs) H _ I hq) (λfl s' hs=>?_) λe s' hs=>hs
 have fin:∀{σ':St}{H':Hp}{v:V}{u:Value},Inv (dw CX P w K mg base N qual scope f FJ A outer s H E) [] σ' H' s'->aC v u->Q v H'->CE outer P w H s Q u s' :=
  λ{σ' H' v u} J rv q=>⟨v,H',J.os,J.bare,J.base,J.hok,rv,q⟩
 cases fl with
 |ret u =>
  obtain⟨v,σ',H',J,rv,q⟩:=hs;exact fin J rv q
 |next =>
  obtain⟨σ',H',J,q⟩:=hs;exact fin (v:=V.non) (u:=Value.none) J rfl q
 |brk =>
  obtain⟨_,_,_,q⟩:=hs;exact False.elim q
 |cont =>
  obtain⟨_,_,_,q⟩:=hs;exact False.elim q
section
variable {X:Cx}{x:Str}{p pos:Pos}{e:Expr}{es:Bo}{t:TA}{id T:String}{r:List V->Hp->VK->Prop}
noncomputable def D4 (r:List V->Hp->VK->Prop)(t:TA):TE:=λσ H Q=>t σ H λvs H1=>r vs H1 Q
theorem aF (hc:bZ X (.builtin id) r)(hg:Gl X x)(hm:X.mg x=none)(hv:bootBuiltins x=some (.builtin id))(ha:PA X (e::es) t)(hn:x ≠ "__name__":=by decide)(GY:(x==("__debug__":Str))=false:=by decide)
 (he:starEach (e::es) X.env=(false,eval e X.env):: starEach es X.env:=by rfl)(Gw:(backTo pos (starEach es X.env)).any (·.1)=false:=by rfl):PE X (.Call (.Name x p) (e::es) [] pos) (D4 r t):=by
 intro pins s σ H Q I h;refine wpAny_Call_Name_kw (gP I hg hm hv ?_ hn GY);exact PyProof.Rows.callWith_builtin1 (bp (ha pos pins s σ H _ I h) λus s1 ⟨vs,H1,I1,r1,q1⟩=>hc pins s1 σ H1 vs us Q I1 r1 q1) he Gw
theorem eN (hc:bZ X (.type T) r)(hg:Gl X x)(hm:X.mg x=none)(hv:bootBuiltins x=some (.type T))(ha:PA X (e::es) t)(hn:x ≠ "__name__":=by decide)(GY:(x==("__debug__":Str))=false:=by decide)
 (he:starEach (e::es) X.env=(false,eval e X.env):: starEach es X.env:=by rfl)(Gw:(backTo pos (starEach es X.env)).any (·.1)=false:=by rfl):PE X (.Call (.Name x p) (e::es) [] pos) (D4 r t):=by
 intro pins s σ H Q I h;refine wpAny_Call_Name_kw (gP I hg hm hv ?_ hn GY);exact PyProof.Rows.callWith_type1 (bp (ha pos pins s σ H _ I h) λus s1 ⟨vs,H1,I1,r1,q1⟩=>hc pins s1 σ H1 vs us Q I1 r1 q1) he Gw
end
section
variable {κ:Type} [DecidableEq κ]
noncomputable def fG (FF:List (κ×V))(k:κ):Option V:=(FF.find? λkv=>decide (kv.1=k)).map (·.2)
noncomputable def cg (FF:List (κ×V))(k:κ)(v:V):List (κ×V):=
 if(FF.any λkv=>decide (kv.1=k))=true then FF.map (λkv=>if kv.1=k then(kv.1,v) else kv) else FF++[(k,v)]
theorem fY {p:κ×V}{r:List (κ×V)}{k:κ}(e:p.1=k):fG (p::r) k=some p.2:=by simp[fG,List.find?_cons,e]
theorem eB {p:κ×V}{r:List (κ×V)}{k:κ}(e:¬p.1=k):fG (p::r) k=fG r k:=by simp[fG,List.find?_cons,e]
theorem ko (k:κ):∀FF:List (κ×V),(FF.any λkv=>decide (kv.1=k))=(fG FF k).isSome
 |[]=>rfl
 |p::r=>by
  rw[List.any_cons]
  by_cases e:p.1=k
  ·simp only[fY e,decide_eq_true e,Bool.true_or,Option.isSome_some]
  ·rw[eB e,decide_eq_false e,Bool.false_or];exact ko k r
theorem dU (FF:List (κ×V))(k:κ)(v:V):(cg FF k v).length<=FF.length+1:=by
 unfold cg
 split
 ·rw[List.length_map];omega
 ·rw[List.length_append,List.length_cons,List.length_nil];omega
theorem dq.aaM {o:Option V}{u:Eh}(r:dq o u):o.isSome=u.isSome:=by
 cases o with
 |none=>cases u with
  |none=>rfl
  |some _=>exact(show False from r).elim
 |some _=>cases u with
  |none=>exact(show False from r).elim
  |some _=>rfl
theorem dq.getD {o:Option V}{u:Eh}{d:V}{d':Value}(r:dq o u)(rd:aC d d'):aC (o.getD d) (u.getD d'):=by
 cases o with
 |none=>cases u with
  |none=>exact rd
  |some _=>exact(show False from r).elim
 |some _=>cases u with
  |none=>exact(show False from r).elim
  |some _=>exact r
theorem KV.val {FF:List (κ×V)}{vs:List (κ×Value)}(r:KV FF vs)(k:κ):dq (fG FF k) (valueAt vs k):=by
 unfold KV at r
 induction r with
 |nil=>exact True.intro
 |@cons p q ps qs h t ih =>
  obtain⟨h1,h2⟩:=h
  by_cases e:p.1=k
  ·have e':q.1=k:=h1.symm.trans e
   have b:valueAt (q::qs) k=some q.2:=by simp[valueAt,List.find?_cons,e']
   rw[fY e,b];exact h2
  ·have e':¬q.1=k:=λz=>e (h1.trans z)
   have b:valueAt (q::qs) k=valueAt qs k:=by simp[valueAt,List.find?_cons,e']
   rw[eB e,b];exact ih
theorem KV.any {FF:List (κ×V)}{vs:List (κ×Value)}(r:KV FF vs)(k:κ):(FF.any λkv=>decide (kv.1=k))=vs.any λkv=>decide (kv.1=k):=by
 unfold KV at r
 induction r with
 |nil=>rfl
 |cons h t ih=>rw[List.any_cons,List.any_cons,ih,h.1]
theorem KV.acd {FF:List (κ×V)}{vs:List (κ×Value)}(r:KV FF vs)(k:κ)(ry:aC y u):
 KV (FF.map λkv=>if kv.1=k then(kv.1,y) else kv) (vs.map λkv=>if kv.1=k then(kv.1,u) else kv):=by
 unfold KV at r |-
 induction r with
 |nil=>exact .nil
 |@cons p q ps qs h t ih =>
  rw[List.map_cons,List.map_cons];refine .cons ?_ ih;obtain⟨h1,h2⟩:=h
  by_cases e:p.1=k
  ·rw[if_pos e,if_pos (h1.symm.trans e)];exact⟨h1,ry⟩
  ·rw[if_neg e,if_neg (λz=>e (h1.trans z))];exact⟨h1,h2⟩
theorem KV.put {FF:List (κ×V)}{vs:List (κ×Value)}(r:KV FF vs)(k:κ)(ry:aC y u):KV (cg FF k y) (stored vs k u):=by
 unfold cg stored;rw[r.any k]
 by_cases e:(vs.any λkv=>decide (kv.1=k))=true
 ·rw[if_pos e,if_pos e];exact r.acd k ry
 ·rw[if_neg e,if_neg e];exact Paired.snoc r ⟨rfl,ry⟩
theorem KV.length {FF:List (κ×V)}{vs:List (κ×Value)}(r:KV FF vs):FF.length=vs.length:=Paired.length r
end
theorem mU {k:Key}(r:aC (kV k) u):(aQ P w).is k u=true:=by
 cases k with
 |inl i=>obtain⟨t,e⟩:=(show ∃t,u=Value.int i t from r);subst e;exact abN P w i t
 |inr x=>obtain⟨t,e⟩:=(show ∃t,u=Value.str x t from r);subst e;exact aaK P w x t
theorem lQ :∀{ks:List Key}{us:qw},aG (ks.map kV) us->ItemsAre (aQ P w) ks us
 |[],_,r=>by rw[List.map_nil] at r;cases r;exact .nil
 |k::ks,_,r=>by
  rw[List.map_cons] at r
  cases r with
  |cons h t=>exact .cons (mU h) (lQ t)
noncomputable abbrev KT (H:Hp):List (List Key×V)->List (List Key×Addr×Value)->Prop:=Paired λp q=>p.1=q.1/\H q.2.1=some (.tup (p.1.map kV))/\aC p.2 q.2.2
variable {FF:List (List Key×V)}{xs:List (List Key×Addr×Value)}
theorem KT.val (r:KT H FF xs)(k:List Key):dq (fG FF k) ((atKey xs k).map (·.2)):=by
 induction r with
 |nil=>exact True.intro
 |@cons p q ps qs h t ih =>
  obtain⟨h1,_,h2⟩:=h
  by_cases e:p.1=k
  ·have e':q.1=k:=h1.symm.trans e
   have b:atKey (q::qs) k=some q.2:=by simp[atKey,List.find?_cons,e']
   rw[fY e,b];exact h2
  ·have e':¬q.1=k:=λz=>e (h1.trans z)
   have b:atKey (q::qs) k=atKey qs k:=by simp[atKey,List.find?_cons,e']
   rw[eB e,b];exact ih
theorem KT.acd (r:KT H FF xs)(k:List Key)(ry:aC y u):
 KT H (FF.map λkv=>if kv.1=k then(kv.1,y) else kv) (xs.map (putAt k u)):=by
 induction r with
 |nil=>exact .nil
 |@cons p q ps qs h t ih =>
  rw[List.map_cons,List.map_cons];refine .cons ?_ ih;obtain⟨h1,h2,h3⟩:=h;unfold putAt
  by_cases e:p.1=k
  ·rw[if_pos e,if_pos (h1.symm.trans e)];exact⟨h1,h2,ry⟩
  ·rw[if_neg e,if_neg (λz=>e (h1.trans z))];exact⟨h1,h2,h3⟩
theorem KT.put (r:KT H FF xs)(k:List Key)(hb:H b=some (.tup (k.map kV)))(ry:aC y u):
 KT H (cg FF k y) (storedH xs k b u):=by
 have e:(FF.any λkv=>decide (kv.1=k))=(atKey xs k).isSome:=by
  rw[ko,(r.val k).aaM,Option.isSome_map]
 unfold cg storedH;rw[e]
 by_cases q:(atKey xs k).isSome=true
 ·rw[if_pos q,if_pos q];exact r.acd k ry
 ·rw[if_neg q,if_neg q];exact Paired.snoc r ⟨rfl,hb,ry⟩
theorem KT.keeps (r:KT H FF xs)(ht:∀b ys,H b=some (.tup ys)->H' b=some (.tup ys)):KT H' FF xs :=
 Paired.aaW r λ_ _ z=>⟨z.1,ht _ _ z.2.1,z.2.2⟩
section
variable {P:vQ}{w:World}{H:Hp}{h:Heap}{a:Addr}
theorem AX {u:HO}(ok:dM P w H h)(e:Rd H a u):ba P w H h a u:=e.ok ok
theorem i8 {FF:List (Key×V)}(ok:dM P w H h)(e:Rd H a (.dK FF)):FF.length<=sizeLine/\(a==sysModules)=false/\∃vs,KV FF vs/\h.DictOf (aQ P w) a vs :=
 show ba P w H h a (.dK FF) from AX ok e
theorem acO {FF:List (Key×V)}(ok:dM P w H h)(e:H a=some (.dK FF)):FF.length<=sizeLine/\(a==sysModules)=false/\∃vs,KV FF vs/\h.DictOf (aQ P w) a vs:=i8 ok (.inl e)
theorem dY {ks:List Key}(ok:dM P w H h)(e:H a=some (.tup (ks.map kV))):(tupleKind (aQ P w)).is h ks a:=by
 obtain⟨_,its,r,o,h1,h2,n,h3⟩:=(show ba P w H h a (.tup (ks.map kV)) from ok a _ e);exact⟨o,its.toArray,n,h1,h2,h3,by simpa using lQ r⟩
theorem fA (ok:dM P w H h)(e:Rd H a (.dT FF)):FF.length<=sizeLine/\(a==sysModules)=false /\
 ∃xs,KT H FF xs/\h.DictOfH (tupleKind (aQ P w)) a xs:=by
 obtain⟨z,y,xs,r,o,es,ep,h1,h2,h3,h4,h5⟩:=(show ba P w H h a (.dT FF) from AX ok e);refine⟨z,y,xs,r,o,es,ep,h1,h2,h3,h4,λx hx=>?_,h5⟩
 have all:∀{l:List (List Key×V)}{m:List (List Key×Addr×Value)},KT H l m->∀x∈m,(tupleKind (aQ P w)).is h x.1 x.2.1:=by
  intro l m q
  induction q with
  |nil=>intro x hx;exact nomatch hx
  |@cons p q ps qs hq t ih =>
   intro x hx
   rcases List.mem_cons.mp hx with e|hx
   ·subst e;exact dY ok (by rw[<-hq.1];exact hq.2.1)
   ·exact ih x hx
 exact all r x hx
theorem xg (ok:dM P w H h)(e:H a=some (.dT FF)):FF.length<=sizeLine/\(a==sysModules)=false /\
 ∃xs,KT H FF xs/\h.DictOfH (tupleKind (aQ P w)) a xs:=fA ok (.inl e)
end
noncomputable def fM (H:Hp)(a:Addr)(y:V)(r:Option V):Prop :=
 (∃FF k,Rd H a (.dK FF)/\y=kV k/\r=fG FF k)\/∃FF k b,Rd H a (.dT FF)/\y=.ref b/\H b=some (.tup (k.map kV))/\r=fG FF k
noncomputable def kg (H:Hp)(a:Addr)(y v:V)(H':Hp):Prop :=
 (∃FF k,H a=some (.dK FF)/\y=kV k/\FF.length<sizeLine/\H'=upd H a (.dK (cg FF k v))) \/
 ∃FF k b,H a=some (.dT FF)/\y=.ref b/\H b=some (.tup (k.map kV))/\FF.length<sizeLine/\H'=upd H a (.dT (cg FF k v))
theorem fM.t {b:Addr}{k:List Key}(e:H a=some (.dT FF))(eb:H b=some (.tup (k.map kV))):fM H a (.ref b) (fG FF k):=.inr ⟨FF,k,b,.inl e,rfl,eb,rfl⟩
theorem kg.t {b:Addr}{k:List Key}(e:H a=some (.dT FF))(eb:H b=some (.tup (k.map kV)))(hl:FF.length<sizeLine):
 kg H a (.ref b) v (upd H a (.dT (cg FF k v))):=.inr ⟨FF,k,b,e,rfl,eb,hl,rfl⟩
section
variable {X:Cx}{pins:List (Addr×Obj)}{σ:St}{H:Hp}{s:Fp}{a:Addr}{y v:V}{u r:Value}{o:Option V}{A:Around}{E:yg}
theorem Inv.big (I:Inv X pins σ H s):sysModules<s.heap.objs.size:=by
 have h:mainGlobals<s.heap.objs.size:=(I.mod.glob.keeps I.bk).lt;exact Nat.lt_trans (by decide) h
theorem acP {Q:yg}(hu:A.units+1<cLine)(I:Inv X pins σ H s)(g:fM H a y (some v))(ry:aC y u)(h:∀w' s',Inv X pins σ H s'->aC v w'->Q w' s'):
 wpAny (model X.prog X.w) A (getItem (.ref a) u) Q E s:=by
 rcases g with⟨FF,k,e,ey,l⟩|⟨FF,k,b,e,ey,eb,l⟩
 ·subst ey;obtain⟨z,hd,vs,rel,dd⟩:=i8 I.hok e;obtain⟨w',hw,GI⟩:=dq.some_of (v:=v) (o:=valueAt vs k) (by rw[l];exact rel.val k);exact wpAny_getItem_of (mU ry) dd.mapOf hw (h w' _ (I.tok _) GI)
 ·subst ey
  cases(show u=Value.ref b from ry)
  obtain⟨z,hd,xs,rel,dd⟩:=fA I.hok e;obtain⟨w',hw,GI⟩:=dq.some_of (v:=v) (o:=(atKey xs k).map (·.2)) (by rw[l];exact rel.val k);obtain⟨p,hp,Mc⟩:=Option.map_eq_some_iff.mp hw;refine wpAny_getItem_heap (tupleKind_room_in1 hu) (dY I.hok eb) dd hp ?_;rw[Mc];exact h w' _ (I.tok _) GI
theorem acQ {Q:yg}(hu:A.units+1<cLine)(I:Inv X pins σ H s)(g:fM H a y o)(ry:aC y u)(h:∀s',Inv X pins σ H s'->Q (.bool o.isSome) s'):
 wpAny (model X.prog X.w) A (compareOp .In u (.ref a)) Q E s:=by
 rcases g with⟨FF,k,e,ey,l⟩|⟨FF,k,b,e,ey,eb,l⟩
 ·subst ey;obtain⟨z,hd,vs,rel,dd⟩:=i8 I.hok e;refine wpAny_in_of (mU ry) hd dd.mapOf ?_;rw[<-(rel.val k).aaM,<-l];exact h _ (I.tok _)
 ·subst ey
  cases(show u=Value.ref b from ry)
  obtain⟨z,hd,xs,rel,dd⟩:=fA I.hok e;refine wpAny_in_heap (tupleKind_room_in1 hu) (dY I.hok eb) hd dd ?_;have q:=(rel.val k).aaM;rw[Option.isSome_map] at q;rw[<-q,<-l];exact h _ (I.tok _)
theorem abD {Q:yg}(hu:A.units+1<cLine)(I:Inv X pins σ H s)(g:fM H a y o)(ry:aC y u)(h:∀s',Inv X pins σ H s'->Q (.bool (!o.isSome)) s'):
 wpAny (model X.prog X.w) A (compareOp .NotIn u (.ref a)) Q E s:=by
 rcases g with⟨FF,k,e,ey,l⟩|⟨FF,k,b,e,ey,eb,l⟩
 ·subst ey;obtain⟨z,hd,vs,rel,dd⟩:=i8 I.hok e;refine wpAny_notIn_of (mU ry) hd dd.mapOf ?_;rw[<-(rel.val k).aaM,<-l];exact h _ (I.tok _)
 ·subst ey
  cases(show u=Value.ref b from ry)
  obtain⟨z,hd,xs,rel,dd⟩:=fA I.hok e;refine wpAny_notIn_heap (tupleKind_room_in1 hu) (dY I.hok eb) hd dd ?_;have q:=(rel.val k).aaM;rw[Option.isSome_map] at q;rw[<-q,<-l];exact h _ (I.tok _)
theorem jt {h':Heap}{t':Nat}{ob:HO}(I:Inv X pins σ H s)(mu:DG (H a))(hs:Heap.SameBut a s.heap h')(he:∃q,h'.get? a=some q)(new:ba X.prog X.w (upd H a ob) h' a ob):
 Inv X pins σ (upd H a ob) {s with heap:=h',toks:=t'}:=
 I.write (x:=a) (e:=a) mu (.inl rfl) (λb q hb z=>(hs.2 b hb).trans z) he new
theorem abE {h':Heap}{FF:List (Key×V)}{vs:List (Key×Value)}(z:FF.length<=sizeLine)(hd:(a==sysModules)=false)(rel:KV FF vs)(dd:h'.DictOf (aQ P w) a vs):
 ba P w H' h' a (.dK FF):=⟨z,hd,vs,rel,dd⟩
theorem abk {Q:Unit->Shared->Prop}(hu:A.units+1<cLine)(I:Inv X pins σ H s)(g:kg H a y v H')(ry:aC y u)(rv:aC v r)(h:∀s',Inv X pins σ H' s'->Q () s'):
 wpAny (model X.prog X.w) A (setItem (.ref a) u r) Q E s:=by
 rcases g with⟨FF,k,e,ey,l,eH⟩|⟨FF,k,b,e,ey,eb,l,eH⟩
 ·subst ey eH;obtain⟨z,hd,vs,rel,dd⟩:=acO I.hok e
  have hz:vs.length<=sizeLine:=by rw[<-rel.length];exact z
  have hl:(cg FF k v).length<=sizeLine:=by have:=dU FF k v;omega
  refine wpAny_setItem_pairs (hsz:=hz) (mU ry) dd λh' JI hs=>h _ ?_;have he:∃q,h'.get? a=some q:=let⟨q,_,_,hq,_⟩:=JI;⟨q,hq⟩;exact jt I (by rw[e];exact True.intro) hs he (abE hl hd (rel.put k rv) JI)
 ·subst ey eH
  cases(show u=Value.ref b from ry)
  obtain⟨z,hd,xs,rel,dd⟩:=xg I.hok e
  have hz:xs.length<=sizeLine:=by rw[<-Paired.length rel];exact z
  have hl:(cg FF k v).length<=sizeLine:=by have:=dU FF k v;omega
  refine wpAny_setItem_heap (hsz:=hz) (tupleKind_room_in1 hu) (dY I.hok eb) dd λh' JI hs=>h _ ?_;obtain⟨q,es,ep,hq,h2,h3,h4,_,h5⟩:=JI;refine jt I (by rw[e];exact True.intro) hs ⟨q,hq⟩ ⟨hl,hd,_,(rel.put k eb rv).keeps λc ys ec=>?_,q,es,ep,hq,h2,h3,h4,h5⟩;rw[ai (i7 ec e (λz=>nomatch z))];exact ec
end
noncomputable def DL (i:Expr):Prop:=∀ov iv,subscripted i false ov iv=operate [ov,iv] (getItem ov iv)
theorem ab1 {prog:vQ}{E:yg}{env:Env}{value slice:Expr}{T id:String}{Q:yg}
 (hl:typeLookup (.type T) "__getitem__"=pure (some (.builtin id)))(hs:DL slice)
 (h:wpAny (model prog w) A (eval value env) (λo s₁=>wpAny (model prog w) A (eval slice env) (λi s₂=>s₂.TypeIs o T/\wpAny (model prog w) A (getItem o i) Q E s₂) E s₁) E s):
 wpAny (model prog w) A (eval (.Subscript value slice pos) env) Q E s:=by
 refine Subscript_ (wpAny_mono h (λo s₁ h₁=>wpAny_mono h₁ (λi s₂ h₂=>?_) λ_ _ x=>x) λ_ _ x=>x);obtain⟨hT,h₂⟩:=h₂;unfold subscriptTail;refine wpAny_bind ?_;rw[getitemInPython_of_ne hT.not_modules];refine wpAny_bind (wpAny_specialOf hT hl ?_)
 have fin:wpAny (model prog w) A (subscripted slice false o i) (λr s₃=>wpAny (model prog w) A (letTemporaryGo value o r>>=λ_=>pure r) Q E s₃) E s₂:=by
  rw[hs o i];exact wpAny_operating (wpAny_mono h₂ (λr s₃ h₃=>wpAny_bind (wpAny_letTemporaryGo (wpAny_pure h₃))) λ_ _ x=>x)
 first
  |exact wpAny_pure (wpAny_bind fin)
  |exact wpAny_bind (wpAny_pure (wpAny_bind fin))
  |exact wpAny_bind fin
theorem aba {o:Option V}(I:Inv X pins σ H s)(g:fM H a y o):s.TypeIs (.ref a) "dict":=by
 rcases g with⟨FF,k,e,_,_⟩|⟨FF,k,b,e,_,_,_⟩
 ·obtain⟨_,_,vs,_,dd⟩:=i8 I.hok e;exact dd.typeIs
 ·obtain⟨_,_,xs,_,dd⟩:=fA I.hok e;exact dd.typeIs
noncomputable def abR (td ty:TE):TE:=λσ H Q=>td σ H λx H1=>ty σ H1 λy H2=>∃a v,x=.ref a/\fM H2 a y (some v)/\Q v H2
noncomputable def abz (ty td:TE):TE:=λσ H Q=>ty σ H λy H1=>td σ H1 λx H2=>∃a o,x=.ref a/\fM H2 a y o/\Q (.bl o.isSome) H2
noncomputable def abb (ty td:TE):TE:=λσ H Q=>ty σ H λy H1=>td σ H1 λx H2=>∃a o,x=.ref a/\fM H2 a y o/\Q (.bl (!o.isSome)) H2
noncomputable def aa1 (td ty tv:TE):TS:=λD σ H=>tv σ H λv H1=>td σ H1 λx H2=>ty σ H2 λy H3=>∃a H4,x=.ref a/\kg H3 a y v H4/\D.nx σ H4
section
variable {X:Cx}{o i e value:Expr}{pos pos' P9:Pos}{td ty tv:TE}
theorem gq (hu:X.A.units+1<cLine)(ho:PE X o td)(hi:PE X i ty)(hs:DL i):PE X (.Subscript o i pos) (abR td ty):=by
 intro pins s σ H Q I h;refine ab1 PySem.F.slot_dict_getitem.lookup hs (bp (ho pins s σ H _ I h) λu s1 ⟨x,H1,I1,rx,q1⟩=>bp (hi pins s1 σ H1 _ I1 q1) λiv s2 z'=>?_);obtain⟨y,H2,I2,ry,a,v,ex,g,q2⟩:=z';subst ex;obtain rfl:u=Value.ref a:=rx;exact⟨aba I2 g,acP hu I2 g ry λw' s3 I3 GI=>⟨v,H2,I3,GI,q2⟩⟩
theorem ach (hu:X.A.units+1<cLine)(hi:PE X i ty)(ho:PE X o td):PC X .In i o (abz ty td):=by
 intro pins s σ H Q I h;refine bp (hi pins s σ H _ I h) λiv s1 ⟨y,H1,I1,ry,q1⟩=>bp (ho pins s1 σ H1 _ I1 q1) λu s2 z'=>?_;obtain⟨x,H2,I2,rx,a,ov,ex,g,q2⟩:=z';subst ex;obtain rfl:u=Value.ref a:=rx;exact acQ hu I2 g ry λs3 I3=>⟨.bl ov.isSome,H2,I3,rfl,q2⟩
theorem mX (hu:X.A.units+1<cLine)(hi:PE X i ty)(ho:PE X o td):PC X .NotIn i o (abb ty td):=by
 intro pins s σ H Q I h;refine bp (hi pins s σ H _ I h) λiv s1 ⟨y,H1,I1,ry,q1⟩=>bp (ho pins s1 σ H1 _ I1 q1) λu s2 z'=>?_;obtain⟨x,H2,I2,rx,a,ov,ex,g,q2⟩:=z';subst ex;obtain rfl:u=Value.ref a:=rx;exact abD hu I2 g ry λs3 I3=>⟨.bl (!ov.isSome),H2,I3,rfl,q2⟩
theorem ib (hu:X.A.units+1<cLine)(ho:PE X o td)(hi:PE X i ty)(hv:PE X value tv)(hs:swapsWith value (some (.Subscript o i pos')) pos.line X.env=pure false):
 PS X (.Assign [.Subscript o i pos'] value pos) (aa1 td ty tv):=by
 intro pins s σ H D I h;refine wpAny_Assign_Subscript (bp (hv pins s σ H _ I h) λr s1 ⟨v,H1,I1,rv,q1⟩=>bp (ho pins s1 σ H1 _ I1 q1) λu s2 ⟨x,H2,I2,rx,q2⟩=>bp (hi pins s2 σ H2 _ I2 q2) λiv s3 z'=>?_) hs;obtain⟨y,H3,I3,ry,a,H4,ex,g,q3⟩:=z';subst ex;obtain rfl:u=Value.ref a:=rx;exact abk hu I3 g ry rv λs4 I4=>⟨σ,H4,I4,q3⟩
end
theorem oN (h:Heap)(hb:sysModules<h.objs.size):ba P w H (h.push {cls:=.type "dict",data:=.dict #[]}) h.objs.size (.dT []):=
 ⟨Nat.zero_le _,beq_eq_false_iff_ne.mpr (Ne.symm (Nat.ne_of_lt hb)),[],.nil,_,#[],0,Heap.get?_push_size _ rfl,⟨rfl,rfl,rfl⟩,rfl,rfl,List.nodup_nil⟩
noncomputable def ace:TE:=λ_ H Q=>∀p,H p=none->Q (.ref p) (upd H p (.dT []))
section
variable {X:Cx}{pos:Pos}
theorem jT:PE X (.Dict [] [] pos) ace:=λpins s σ H Q I h =>
 wpAny_Dict_empty ⟨.ref s.heap.objs.size,_,I.laid (a:=s.heap.objs.size) (o:=.dT []) (t':=s.toks) (λ_ _ q=>Heap.get?_push_of_some _ q) (Nat.le_refl _) (oN s.heap I.big),rfl,h _ (I.hok.fresh (Nat.le_refl _))⟩
end
structure ab3 (X:Cx)(o:Expr)(m:Str)(apos:Pos)(e:Expr)(FU:Pos):Prop where
 base:attributeBase o m X.env (eval o X.env)=eval o X.env
 few:((backTo FU (starEach [e] X.env)).all (λx=>!x.1)&&(backToKw FU (keywordEach [] X.env)).all (λx=>x.1.isSome)
  && decide (([e]:Bo).length+([]:List Keyword).length+(if([]:List Keyword).isEmpty then 0 else 1)<30))=true
 line:(apos.endLine==FU.line)=true
 trees:backTo FU (starEach [e] X.env)=[(false,eval e X.env)]
structure M2 (X:Cx)(o:Expr)(m:Str)(apos:Pos)(e f:Expr)(FU:Pos):Prop where
 base:attributeBase o m X.env (eval o X.env)=eval o X.env
 few:((backTo FU (starEach [e,f] X.env)).all (λx=>!x.1)&&(backToKw FU (keywordEach [] X.env)).all (λx=>x.1.isSome)
  && decide (([e,f]:Bo).length+([]:List Keyword).length+(if([]:List Keyword).isEmpty then 0 else 1)<30))=true
 line:(apos.endLine==FU.line)=true
 trees:backTo FU (starEach [e,f] X.env)=[(false,eval e X.env),(false,eval f X.env)]
noncomputable def D8 (H:Hp)(a:Addr):Prop:=(∃FF,Rd H a (.dK FF))\/∃FF,Rd H a (.dT FF)
theorem xO (I:Inv X pins σ H s)(d:D8 H a):
 s.TypeIs (.ref a) "dict"/\(∀b,Value.ref a=.ref b->∃ob,s.heap.get? b=some ob/\ob.dict=none)/\(a==sysModules)=false:=by
 rcases d with⟨FF,e⟩|⟨FF,e⟩
 ·obtain⟨_,hd,vs,_,dd⟩:=i8 I.hok e;refine⟨dd.typeIs,λb q=>?_,hd⟩
  cases q
  obtain⟨ob,_,_,h1,h2,_⟩:=dd;exact⟨ob,h1,h2.2.1⟩
 ·obtain⟨_,hd,xs,_,dd⟩:=fA I.hok e;refine⟨dd.typeIs,λb q=>?_,hd⟩
  cases q
  obtain⟨ob,_,_,h1,h2,_⟩:=dd;exact⟨ob,h1,h2.2.1⟩
section
variable {X:Cx}{pins:List (Addr×Obj)}{σ:St}{H:Hp}{s:Fp}{a:Addr}{y d:V}{u r:Value}{o:Option V}{A:Around}{E:yg}
theorem abP {Q:yg}(hu:A.units+1<cLine)(I:Inv X pins σ H s)(g:fM H a y o)(ry:aC y u)(rd:aC d r)(h:∀w' s',Inv X pins σ H s'->aC (o.getD d) w'->Q w' s'):
 wpAny (model X.prog X.w) A (call (.builtin "dict.get") [.ref a,u,r]) Q E s:=by
 rcases g with⟨FF,k,e,ey,l⟩|⟨FF,k,b,e,ey,eb,l⟩
 ·subst ey;obtain⟨z,hd,vs,rel,dd⟩:=i8 I.hok e;refine call_meetsIn PySem.F.slot_dict_get dd.typeIs PySem.F.entry_dict_get (PySem.F.args_dict_get_3 _ _ _) (meets_dict_get_default (aQ X.prog X.w) a (mU ry) hd r) ⟨_,dd.mapOf,h _ _ (I.tok _) ?_⟩;rw[l];exact(rel.val k).getD rd
 ·subst ey
  cases(show u=Value.ref b from ry)
  obtain⟨z,hd,xs,rel,dd⟩:=fA I.hok e;refine call_meetsIn PySem.F.slot_dict_get dd.typeIs PySem.F.entry_dict_get (PySem.F.args_dict_get_3 _ _ _) (meetsH_dict_get_default (tupleKind (aQ X.prog X.w)) a b hd r) ⟨tupleKind_room_in1 hu,k,xs,dY I.hok eb,dd,h _ _ (I.tok _) ?_⟩;rw[l];exact(rel.val k).getD rd
end
noncomputable def abQ (td ty tx:TE):TE:=λσ H Q=>td σ H λx H1=>∃a,x=.ref a/\D8 H1 a/\ty σ H1 λy H2=>tx σ H2 λz H3=>∃o,fM H3 a y o/\Q (o.getD z) H3
section
variable {X:Cx}{o e f:Expr}{apos FU:Pos}{td ty tx:TE}
theorem pb (hu:X.A.units+1<cLine)(ho:PE X o td)(he:PE X e ty)(hf:PE X f tx)(m:M2 X o "get" apos e f FU):PE X (.Call (.Attribute o "get" apos) [e,f] [] FU) (abQ td ty tx):=by
 intro pins s σ H Q I h;refine wpAny_Call_method m.base m.few m.line PySem.F.plainAttrs_dict PySem.F.slot_dict_get PySem.F.type_dict_get (bp (ho pins s σ H _ I h) λu s1 z'=>?_);obtain⟨x,H1,I1,rx,a,ex,d,q1⟩:=z';subst ex;obtain rfl:u=Value.ref a:=rx;obtain⟨t1,t2,_⟩:=xO I1 d;refine⟨t1,t2,?_⟩;rw[m.trees]
 refine Calls.callWith_builtin rfl (Calls.evalArgs_plain (Calls.spliced_cons (bp (he pins s1 σ H1 _ I1 q1) λiv s2 ⟨y,H2,I2,ry,q2⟩ =>
  Calls.spliced_cons (bp (hf pins s2 σ H2 _ I2 q2) λfv s3 ⟨z,H3,I3,rz,ov,g,q3⟩=>Calls.spliced_nil ?_))))
 exact abP hu I3 g ry rz λw' s4 I4 GI=>⟨_,H3,I4,GI,q3⟩
end
end L2
namespace HT
open PySem PyProof.Rows
noncomputable def cM:List Int->List Int->Bool
 |[],[]=>false
 |[],_::_=>true
 |_::_,[]=>false
 |x::xs,y::ys=>if x=y then cM xs ys else decide (x<y)
theorem dD (x y:Int)(xs ys:List Int):cM (x::xs) (y::ys)=if x=y then cM xs ys else decide (x<y):=rfl
theorem acq:cM [] []=false:=rfl
theorem abg (y:Int)(ys:List Int):cM [] (y::ys)=true:=rfl
theorem abr (x:Int)(xs:List Int):cM (x::xs) []=false:=rfl
theorem abF (A:Around)(s:Fp)(a:Int)(t:Tok)(c:Int)(u:Tok):∃e,SeqAt.EqAt A s (.int a t) (.int c u) e/\(e=true↔a=c):=
 ⟨(a==c),SeqAt.EqAt.int_int a t c u,by simp⟩
theorem abh (A:Around)(s:Fp)(a:Int)(t:Tok)(c:Int)(u:Tok)(prog:vQ)(w:World)(E:yg)(Q:yg)(h:Q (.bool (decide (a<c))) s):
 wpAny (model prog w) A (richCompare .Lt (.int a t) (.int c u)) Q E s :=
 (PyProof.Rows.lt_int h:wpAny (model prog w) A (compareOp .Lt (.int a t) (.int c u)) Q E s)
section
open PySem.SeqAt
open PySem.AutoSeq1 (wpAny_loadPart')
open PySem.MeetsSeq PySem.MeetsSeq2 PySem.MeetsSeq3
theorem abG (l b:Addr)(items F5:Cm)(n n2:Nat)(dd JJ:CC)(sl Ir:DP)(ns ms:List Int)(hi:IntsAre items.toList ns)(hj:IntsAre F5.toList ms):
 Meets (Builtin.«tuple.__lt__» ⟨[.ref l,.ref b],[]⟩)
  (λ_ R s=>s.heap.get? l=some {cls:=.type "tuple",dict:=dd,data:=.seq items n,slots:=sl}/\s.heap.get? b=some {cls:=.type "tuple",dict:=JJ,data:=.seq F5 n2,slots:=Ir} /\
   R (.ok (.ret (.bool (cM ns ms)))) s):=
 .of_wp λprog w A R s h=>by
  obtain⟨hp,g,d,tk,os⟩:=s;obtain⟨hl,hb,h⟩:=h;have f2:=AutoSeq1.sub_tuple_tuple
  have z1:items.size=ns.length:=by rw[<-hi.length];simp
  have z2:F5.size=ms.length:=by rw[<-hj.length];simp
  wp_walk using wpAny_loadPart' hl,wpAny_loadPart' hb,wpAny_forIn_list _ (λrest b s'=>b.1=none/\s'=⟨hp,g,d,tk,os⟩/\∃(vs ws:qw)(LG LH:List Int),rest=vs.zip ws /\
   IntsAre vs LG/\IntsAre ws LH/\LG.length+F5.size=LH.length+items.size/\R (.ok (.ret (.bool (cM LG LH)))) ⟨hp,g,d,tk,os⟩) _
  case turn =>
   rintro⟨y,x⟩ rest b s' ⟨Gf,rfl,vs,ws,LG,LH,hz,Qa,OY,hlen,hR⟩
   cases Qa with
   |nil=>rw[List.zip_nil_left] at hz;cases hz
   |cons a t Qb =>
    cases OY with
    |nil=>rw[List.zip_nil_right] at hz;cases hz
    |cons c u Qc =>
     rw[List.zip_cons_cons] at hz
     injection hz with VX HL
     injection VX with hy hx
     subst hy hx;rw[dD] at hR;simp only[List.length_cons] at hlen;obtain⟨e,he,Md⟩:=abF A.in1 ⟨hp,g,d,tk,os⟩ a t c u;refine wpAny_bind (he prog w _ _ ?_)
     cases e with
     |true =>
      rw[if_pos (Md.mp rfl)] at hR
      wp_walk
      exact⟨rfl,rfl,_,_,_,_,HL,Qb,Qc,by omega,hR⟩
     |false =>
      rw[if_neg (λq=>absurd (Md.mpr q) Bool.false_ne_true)] at hR;have VY:=abh A.in1 ⟨hp,g,d,tk,os⟩ a t c u prog w
      wp_walk using VY
      exact⟨_,rfl,by simpa using hR⟩
  case fin =>
   rintro⟨b1,b2⟩ s' ⟨Gf,rfl,vs,ws,LG,LH,hz,Qa,OY,hlen,hR⟩;simp only at Gf;subst Gf
   have hv:cM LG LH=decide (items.size<F5.size):=by
    cases Qa with
    |nil =>
     cases OY with
     |nil =>
      simp only[List.length_nil] at hlen;rw[acq];exact(decide_eq_false (by omega)).symm
     |cons c u hw =>
      simp only[List.length_nil,List.length_cons] at hlen;rw[abg];exact(decide_eq_true (by omega)).symm
    |cons a t hv =>
     cases OY with
     |nil =>
      simp only[List.length_nil,List.length_cons] at hlen;rw[abr];exact(decide_eq_false (by omega)).symm
     |cons c u hw =>
      rw[List.zip_cons_cons] at hz
      cases hz
   rw[hv] at hR
   wp_walk
   exact⟨_,rfl,by simpa[Builtin.Tuple.tupleCompareSizes] using hR⟩
  case h =>
   exact⟨rfl,rfl,items.toList,F5.toList,ns,ms,rfl,hi,hj,by omega,h⟩
end
section
variable {prog:vQ}{w:World}{A:Around}{E:yg}{s:Fp}
theorem abH {l b:Addr}{items F5:Cm}{ns ms:List Int}{Q:yg}(hl:IsTup s.heap l items)(hb:IsTup s.heap b F5)(hi:IntsAre items.toList ns)(hj:IntsAre F5.toList ms)
 (hu:A.units<cLine)(h:Q (.bool (cM ns ms)) s):wpAny (model prog w) A (compareOp .Lt (.ref l) (.ref b)) Q E s:=by
 obtain⟨⟨cls,dd,data,sl⟩,ho,hc,n,hd⟩:=id hl;obtain⟨⟨Me,JJ,data2,Ir⟩,Jd,HM,n2,hd2⟩:=id hb;simp only at hc hd HM hd2;subst hc hd HM hd2
 exact richCompare_meets_room (op:=.Lt) ⟨_,ho,rfl⟩ ⟨_,Jd,rfl⟩ PySem.F.slot_tuple_lt PySem.F.entry_tuple_lt (PySem.F.args_tuple_lt_2 _ _) (abG l b items F5 n n2 dd JJ sl Ir ns ms hi hj)
  ⟨ho,Jd,show Value.bool (cM ns ms)≠Value.notImplemented/\Q (.bool (cM ns ms)) s from⟨(λx=>nomatch x),h⟩⟩ hu
theorem abt {t b:Addr}{vs ws:qw}{Q:yg}(ht:IsTup s.heap t vs.toArray)(hb:IsTup s.heap b ws.toArray)(hv:vs≠[])
 (h1:ws=[]->Q (.ref t) s)(h2:ws≠[]->Q (.ref s.heap.objs.size) {s with heap:=s.heap.push {cls:=.type "tuple",data:=.seq (vs++ws).toArray} })
 (hsz:vs.length+ws.length<=sizeLine):wpAny (model prog w) A (binaryOp .Add (.ref t) (.ref b)) Q E s:=by
 obtain⟨⟨cls,dd,data,sl⟩,ho,hc,n,hd⟩:=id ht;obtain⟨⟨Me,JJ,data2,Ir⟩,Jd,HM,n2,hd2⟩:=id hb;simp only at hc hd HM hd2;subst hc hd HM hd2
 have e:vs.toArray++ws.toArray=(vs++ws).toArray:=by simp
 by_cases hw:ws=[]
 ·exact concat_meets ⟨_,ho,rfl⟩ ⟨_,Jd,rfl⟩ noFill_tuple_add seq_tuple_add PySem.F.slot_tuple_add PySem.F.entry_tuple_add (PySem.F.args_tuple_add_2 _ _)
   (tuple_addW1 t b vs.toArray ws.toArray n n2 dd JJ sl Ir (by simpa using hv) (by simp[hw])) ⟨ho,Jd,h1 hw⟩
 ·refine concat_meets ⟨_,ho,rfl⟩ ⟨_,Jd,rfl⟩ noFill_tuple_add seq_tuple_add PySem.F.slot_tuple_add PySem.F.entry_tuple_add (PySem.F.args_tuple_add_2 _ _)
   (tuple_addW2 t b vs.toArray ws.toArray n n2 dd JJ sl Ir (by simpa using hv) (by simpa using hw) (by rw[List.size_toArray,List.size_toArray];exact hsz)) ⟨ho,Jd,?_⟩
  rw[e];exact h2 hw
noncomputable def dW (n d:Nat):Option Int->Nat
 |none=>d
 |some v=>if v<0 then(v+(n:Int)).toNat else min v.toNat n
theorem ab6 (n d:Nat)(hd:d<=n)(o:Option Int):dW n d o<=n:=by
 cases o with
 |none=>exact hd
 |some v =>
  show(if v<0 then(v+(n:Int)).toNat else min v.toNat n)<=n
  by_cases hv:v<0
  ·rw[if_pos hv];omega
  ·rw[if_neg hv];exact Nat.min_le_right _ _
theorem ux (v:Int)(n d:Nat):(if v<0 then max (v+(n:Int)) 0 else min v (n:Int))=((dW n d (some v):Nat):Int):=by
 show(if v<0 then max (v+(n:Int)) 0 else min v (n:Int))=(((if v<0 then(v+(n:Int)).toNat else min v.toNat n):Nat):Int)
 by_cases hv:v<0
 ·simp only[if_pos hv];omega
 ·simp only[if_neg hv];omega
theorem acw (lo hi:Option Int)(n:Nat):Builtin.Slice.sliceAdjust lo hi 1 (n:Int)=(((dW n 0 lo:Nat):Int),((dW n n hi:Nat):Int)):=by
 have h1:¬((1:Int)<0):=by omega
 unfold Builtin.Slice.sliceAdjust;simp only[h1,if_false];refine Prod.ext ?_ ?_
 ·cases lo with
  |none=>rfl
  |some v=>exact ux v n 0
 ·cases hi with
  |none=>rfl
  |some v=>exact ux v n n
theorem acx (i j:Nat):Builtin.Slice.slicePlaces (i:Int) (j:Int) 1=j-i:=by
 unfold Builtin.Slice.slicePlaces
 have h1:(1:Int)>0:=by omega
 simp only[h1,if_true,Int.ediv_one]
 split <;> omega
theorem kq {v:Value}{o:Option Int}{Q:Option Int->Shared->Prop}(p:IsPart v o)(h:Q o s):wpAny (model prog w) A (Builtin.Slice.slicePartIndex v) Q E s:=by
 cases p with
 |none=>exact slicePart_none h
 |int i t=>exact slicePart_int h
theorem eQ {sl:Addr}{vl vu:Value}{lo hi:Option Int}{n:Nat}{Q:Int×Int×Nat->Shared->Prop}(hs:s.heap.IsSliceOf sl vl vu .none)(pl:IsPart vl lo)(pu:IsPart vu hi)
 (h:Q (((dW n 0 lo:Nat):Int),1,dW n n hi-dW n 0 lo) s):wpAny (model prog w) A (Builtin.Slice.sliceApplied (.ref sl) (pure (n:Int))) Q E s:=by
 obtain⟨os,KJ,LI,Mf⟩:=id hs;unfold Builtin.Slice.sliceApplied Builtin.Slice.sliceFields;refine wpAny_bind (wpAny_bind (wpAny_field KJ Mf (x:=vl) rfl (wpAny_bind (wpAny_field KJ Mf (x:=vu) rfl (wpAny_bind (wpAny_field KJ Mf (x:=.none) rfl (wpAny_pure ?_)))))));refine wpAny_bind (slicePart_none ?_);show wpAny _ _ (if((1:Int)==0)=true then _ else _) _ _ s;rw[if_neg (by decide)];refine wpAny_bind (kq pl (wpAny_bind (kq pu (wpAny_bind (wpAny_pure ?_)))));show wpAny _ _ (match Builtin.Slice.sliceAdjust lo hi 1 (n:Int) with|(lo,hi)=>pure (lo,(1:Int),Builtin.Slice.slicePlaces lo hi 1)) _ _ s;rw[acw lo hi n];show wpAny _ _ (pure (((dW n 0 lo:Nat):Int),(1:Int),Builtin.Slice.slicePlaces ((dW n 0 lo:Nat):Int) ((dW n n hi:Nat):Int) 1)) _ _ s;rw[acx];exact wpAny_pure h
theorem xV (xs:Cm)(i k:Nat):((List.range k).filterMap λ(m:Nat)=>xs[((i:Int)+(m:Int)*1).toNat]?).toArray=((xs.toList.drop i).take k).toArray:=by
 have e:(λ(m:Nat)=>xs[((i:Int)+(m:Int)*1).toNat]?)=λm=>xs[i+m]?:=by
  funext m
  have:((i:Int)+(m:Int)*1).toNat=i+m:=by omega
  rw[this]
 rw[e];have:=pick_run xs i k;rw[List.filterMap_map] at this;have e2:((λx=>xs[x]?) ∘ λx=>i+x)=λm=>xs[i+m]?:=rfl;rw[e2] at this;rw[this]
theorem hU {t sl:Addr}{items:Cm}{vl vu:Value}{lo hi:Option Int}{Q:yg}(ht:IsTup s.heap t items)(hs:s.heap.IsSliceOf sl vl vu .none)(pl:IsPart vl lo)(pu:IsPart vu hi)
 (hw:¬(dW items.size 0 lo=0/\dW items.size items.size hi=items.size))
 (h:Q (.ref s.heap.objs.size) {s with heap:=s.heap.push {cls:=.type "tuple",data:=.seq ((items.toList.drop (dW items.size 0 lo)).take (dW items.size items.size hi-dW items.size 0 lo)).toArray} })
 (hsz:items.size<=sizeLine):wpAny (model prog w) A (getItem (.ref t) (.ref sl)) Q E s:=by
 have HN:sizeOk (.seq ((items.toList.drop (dW items.size 0 lo)).take (dW items.size items.size hi-dW items.size 0 lo)).toArray):=by
  show((items.toList.drop (dW items.size 0 lo)).take (dW items.size items.size hi-dW items.size 0 lo)).toArray.size<=sizeLine;rw[List.size_toArray,List.length_take,List.length_drop,Array.length_toList];omega
 have hj:dW items.size items.size hi<=items.size:=ab6 _ _ (Nat.le_refl _) hi;obtain⟨os,KJ,LI,Mf⟩:=id hs;have Qd:s.TypeIs (.ref sl) "slice":=⟨os,KJ,LI⟩;unfold getItem
 try with_reducible refine wpAny_holding ?_
 first|refine wpAny_bind (wpAny_pure ?_)|skip
 refine wpAny_bind (wpAny_sequenceKey ht.typeIs (by decide) ?_)
 refine wpAny_bind (wpAny_callSpecial?_slot (name:=Str.ofString "__getitem__") ht.typeIs PyProof.Rows.slot_tuple_getitem
  (wpAny_call_entry PyProof.Rows.slot_tuple_getitem ht.typeIs entry_tuple_getitem ?_ (args_tuple_getitem _ _)))
 show wpAny _ _ (Builtin.Tuple.tupleItemsOf (.ref t)>>=_) _ _ s;refine wpAny_bind (tupleItemsOf_ ht ?_);refine wpAny_bind (wpAny_typeOf Qd ?_);rw[if_pos (by decide)];refine wpAny_bind (eQ hs pl pu ?_)
 have GJ:¬((((dW items.size 0 lo:Nat):Int)==0&&(1:Int)==1&&(dW items.size items.size hi-dW items.size 0 lo)==items.size)=true):=by
  intro q;rw[Bool.and_eq_true,Bool.and_eq_true] at q;have q1:((dW items.size 0 lo:Nat):Int)=0:=eq_of_beq q.1.1;have q2:dW items.size items.size hi-dW items.size 0 lo=items.size:=eq_of_beq q.2;exact hw ⟨by omega,by omega⟩
 show wpAny _ _ (if(((dW items.size 0 lo:Nat):Int)==0&&(1:Int)==1&&(dW items.size items.size hi-dW items.size 0 lo)==items.size)=true then _ else _) _ _ s;rw[if_neg GJ,xV]
 first
  |exact wpAny_bind (m:=Builtin.Tuple.tupleExact _) (wpAny_newObj_type (wpAny_pure ⟨_,rfl,wpAny_pure h⟩) HN)
  |exact wpAny_bind (m:=Builtin.Tuple.tupleExact _) (wpAny_newObj_type (wpAny_bind (wpAny_pure (wpAny_pure ⟨_,rfl,wpAny_pure h⟩))) HN)
  |exact wpAny_bind (wpAny_bind (m:=Builtin.Tuple.tupleExact _) (wpAny_newObj_type (wpAny_pure (wpAny_pure ⟨_,rfl,wpAny_pure h⟩)) HN))
  |exact wpAny_bind (wpAny_bind (m:=Builtin.Tuple.tupleExact _) (wpAny_newObj_type (wpAny_pure ⟨_,rfl,wpAny_pure h⟩) HN))
end
end HT
namespace L2
open PySem PySem.Spec PyProof.Rows
noncomputable abbrev TO:=St->Hp->(Option Int->Hp->Prop)->Prop
noncomputable def PO (X:Cx)(e:Option Expr)(t:TO):Prop :=
 ∀(pins:List (Addr×Obj))(s:Fp)(σ:St)(H:Hp)(Q:Option Int->Hp->Prop),Inv X pins σ H s->t σ H Q →
  wpAny (model X.prog X.w) X.A (evalPart e X.env) (λu s'=>∃o H',Inv X pins σ H' s'/\IsPart u o/\Q o H') X.xe s
noncomputable def abY:TO:=λ_ H Q=>Q none H
noncomputable def DK (t:TE):TO:=λσ H Q=>t σ H λx H1=>∃i,x=.int i/\Q (some i) H1
theorem jL {ns:List Int}:∀{us:qw},aG (ns.map V.int) us->IntsAre us ns:=by
 induction ns with
 |nil=>intro us r;rw[List.map_nil] at r;cases r;exact .nil
 |cons n ns ih =>
  intro us r;rw[List.map_cons] at r
  cases r with
  |cons r1 r2 =>
   obtain⟨t,e⟩:=r1;subst e;exact .cons n t (ih r2)
variable {xs:List V}
section
variable {X:Cx}{e:Expr}{te:TE}{lo hi:Option Expr}{tl th:TO}{pos p2:Pos}
theorem Ab:PO X none abY:=by
 intro pins s σ H Q I h;rw[evalPart_none];exact wpAny_pure ⟨none,H,I,.none,h⟩
theorem Aq (h:PE X e te):PO X (some e) (DK te):=by
 intro pins s σ H Q I hw;rw[evalPart_some];refine bp (h pins s σ H _ I hw) λu s1 z'=>?_;obtain⟨x,H1,I1,r1,q1⟩:=z';obtain⟨i,rfl,q⟩:=q1;obtain⟨t,rfl⟩:=r1;exact⟨some i,H1,I1,.int i t,q⟩
noncomputable def EZ (X:Cx)(r:V->Option Int->Option Int->Hp->VK->Prop):Prop :=
 ∀(pins:List (Addr×Obj))(s:Fp)(σ:St)(H:Hp)(x:V)(v vl vu:Value)(lo hi:Option Int)(sl:Addr)(Q:VK),Inv X pins σ H s->aC x v->s.heap.IsSliceOf sl vl vu .none->IsPart vl lo->IsPart vu hi->r x lo hi H Q →
  ∃T id,typeLookup (.type T) "__getitem__"=pure (some (.builtin id))/\s.TypeIs v T/\wpAny (model X.prog X.w) X.A (getItem v (.ref sl)) (EP X pins σ Q) X.xe s
noncomputable def Fw (r:V->Option Int->Option Int->Hp->VK->Prop)(te:TE)(tl th:TO):TE:=λσ H Q=>te σ H λx H1=>tl σ H1 λl H2=>th σ H2 λu H3=>r x l u H3 Q
theorem yw {r:V->Option Int->Option Int->Hp->VK->Prop}(hr:EZ X r)(he:PE X e te)(hl:PO X lo tl)(hu:PO X hi th):PE X (.Subscript e (.Slice lo hi none p2) pos) (Fw r te tl th):=by
 intro pins s σ H Q I h;refine Subscript_ (bp (he pins s σ H _ I h) λv s1 z'=>?_);obtain⟨x,H1,I1,r1,q1⟩:=z';refine wpAny_Slice (bp (hl pins s1 σ H1 _ I1 q1) λvl s2 ⟨l,H2,I2,pl,q2⟩=>bp (hu pins s2 σ H2 _ I2 q2) λvu s3 z'=>?_);obtain⟨u,H3,I3,pu,q3⟩:=z';rw[evalPart_none];refine wpAny_pure ?_;have I4:Inv X pins σ H3 {s3 with heap:=s3.heap.push {cls:=.type "slice",data:=.fields #[vl,vu,.none]} }:=I3.kept (t':=s3.toks) λb ob q=>Heap.get?_push_of_some _ q;obtain⟨T,id,hT,ht,hg⟩:=hr pins {s3 with heap:=s3.heap.push {cls:=.type "slice",data:=.fields #[vl,vu,.none]} } σ H3 x v vl vu l u s3.heap.objs.size Q I4 r1 (Heap.IsSliceOf.new ..) pl pu q3;show wpAny (model X.prog X.w) X.A (subscriptTail e (.Slice lo hi none p2) v (.ref s3.heap.objs.size)) (EP X pins σ Q) X.xe {s3 with heap:=s3.heap.push {cls:=.type "slice",data:=.fields #[vl,vu,.none]} };exact tail_any (ops:=[.ref s3.heap.objs.size,v]) ht hT hg (by with_unfolding_all rfl)
noncomputable def nM (xs:List V)(lo hi:Option Int):List V:=(xs.drop (HT.dW xs.length 0 lo)).take (HT.dW xs.length xs.length hi-HT.dW xs.length 0 lo)
theorem oS (xs:List V)(lo hi:Option Int):(nM xs lo hi).length<=xs.length:=by
 unfold nM;rw[List.length_take,List.length_drop];omega
noncomputable def EM (K:PySem.W.Frag):V->Option Int->Option Int->Hp->VK->Prop:=λx lo hi H Q=>∃a xs,x=.ref a/\bf K H a xs /\
 ¬(HT.dW xs.length 0 lo=0/\HT.dW xs.length xs.length hi=xs.length)/\∀p,H p=none->Q (.ref p) (upd H p (.tup (nM xs lo hi)))
theorem Bc:EZ X (EM X.K):=by
 intro pins s σ H x v vl vu lo hi sl Q I rx hs pl pu h;obtain⟨a,xs,rfl,hx,hw,q⟩:=h
 cases rx
 obtain⟨its,r,ht,hz⟩:=I.tuple hx
 have hlen:its.toArray.size=xs.length:=by rw[List.size_toArray];exact r.length.symm
 refine⟨"tuple",_,PyProof.Rows.slot_tuple_getitem.lookup,ht.typeIs,?_⟩;refine HT.hU ht hs pl pu (by rw[hlen];exact hw) ?_ (by rw[hlen];exact hz);rw[hlen];refine⟨.ref s.heap.objs.size,_,I.laid (t':=s.toks) (o:=.tup (nM xs lo hi)) (λb ob q=>Heap.get?_push_of_some _ q) (Nat.le_refl _) ?_,rfl,q _ (I.hok.fresh (Nat.le_refl _))⟩;exact⟨Nat.le_trans (oS xs lo hi) hz,_,(r.drop (HT.dW xs.length 0 lo)).take (HT.dW xs.length xs.length hi-HT.dW xs.length 0 lo),IsTup.new _ _⟩
noncomputable def CQ (K:PySem.W.Frag):R2:=λx y H Q=>∃a b xs ys,x=.ref a/\y=.ref b/\bf K H a xs/\bf K H b ys/\xs≠[]/\xs.length+ys.length<=sizeLine /\
 (ys=[]->Q (.ref a) H)/\(ys≠[]->∀p,H p=none->Q (.ref p) (upd H p (.tup (xs++ys))))
theorem aG.abj {us:qw}(r:aG xs us):us=[]↔xs=[]:=by
 cases r with
 |nil=>simp
 |cons _ _=>simp
theorem zP:fu X (binaryOp .Add) (CQ X.K):=by
 intro pins s σ H x y v u Q I rx ry h;obtain⟨a,b,xs,ys,rfl,rfl,ha,hb,hx,hz,q1,q2⟩:=h
 cases rx
 cases ry
 obtain⟨its,r1,p1,_⟩:=I.tuple ha;obtain⟨FK,r2,p2,_⟩:=I.tuple hb;refine HT.abt p1 p2 (λz=>hx (r1.abj.mp z)) (λz=>⟨.ref a,H,I,rfl,q1 (r2.abj.mp z)⟩) (λz=>?_) (by rw[<-r1.length,<-r2.length];exact hz);refine⟨.ref s.heap.objs.size,_,I.laid (t':=s.toks) (o:=.tup (xs++ys)) (λb ob q=>Heap.get?_push_of_some _ q) (Nat.le_refl _) ?_,rfl,q2 (λw=>z (r2.abj.mpr w)) _ (I.hok.fresh (Nat.le_refl _))⟩;exact⟨by rw[List.length_append];exact hz,_,r1.append r2,IsTup.new _ _⟩
end
noncomputable def zt (n:Nat)(i:Int):Option Nat:=if 0<=i then(if i<n then some i.toNat else none) else if -(n:Int)<=i then some (i+n).toNat else none
noncomputable def vp {α:Type}(xs:List α)(i:Int):Option α:=(zt xs.length i).bind λj=>xs[j]?
variable {n:Nat}
theorem uw {i:Int}{j:Nat}(h:zt n i=some j):seqIndex? i n=some j/\j<n/\-(n:Int)<=i/\i<n:=by
 unfold zt at h
 by_cases h0:0<=i
 ·rw[if_pos h0] at h
  by_cases h1:i<n
  ·rw[if_pos h1] at h;have e:i.toNat=j:=Option.some.inj h;exact⟨by rw[seqIndex_of h0 h1,e],by omega,by omega,h1⟩
  ·rw[if_neg h1] at h;cases h
 ·rw[if_neg h0] at h
  by_cases h1:-(n:Int)<=i
  ·rw[if_pos h1] at h;have e:(i+n).toNat=j:=Option.some.inj h;exact⟨by rw[seqIndex_neg (by omega) h1,e],by omega,h1,by omega⟩
  ·rw[if_neg h1] at h;cases h
theorem ud {α:Type}{xs:List α}{i:Int}{v:α}(h:vp xs i=some v):∃j,seqIndex? i xs.length=some j/\xs[j]?=some v/\j<xs.length/\-(xs.length:Int)<=i/\i<xs.length:=by
 unfold vp at h
 cases e:zt xs.length i with
 |none=>rw[e] at h;cases h
 |some j =>
  rw[e] at h;obtain⟨h1,h2,h3,h4⟩:=uw e;exact⟨j,h1,h,h2,h3,h4⟩
theorem t6 {α:Type}{xs:List α}{j:Nat}{v:α}(h:xs[j]?=some v):vp xs (j:Int)=some v:=by
 have hj:j<xs.length:=(List.getElem?_eq_some_iff.mp h).1
 have e:zt xs.length (j:Int)=some j:=by
  unfold zt;rw[if_pos (by omega),if_pos (by omega)];simp
 unfold vp;rw[e];exact h
noncomputable def Ai (b:Expr):Prop:=∀o i,subscripted b false o i=operate [o,i] (getItem o i)
noncomputable def Ds (X:Cx)(r:R2):Prop :=
 ∀(value slice:Expr)(pins:List (Addr×Obj))(s:Fp)(σ:St)(H:Hp)(x y:V)(v u:Value)(Q:VK),Inv X pins σ H s->aC x v->aC y u->r x y H Q →
  subscripted slice false v u=operate [v,u] (getItem v u)->wpAny (model X.prog X.w) X.A (subscriptTail value slice v u) (EP X pins σ Q) X.xe s
noncomputable def DU (X:Cx)(id:String)(r:V->List V->Hp->VK->Prop):Prop :=
 ∀(pins:List (Addr×Obj))(s:Fp)(σ:St)(H:Hp)(x:V)(xs:List V)(v:Value)(us:qw)(Q:VK),Inv X pins σ H s->aC x v->aG xs us->r x xs H Q →
  wpAny (model X.prog X.w) X.A (call (.builtin id) (v::us)) (EP X pins σ Q) X.xe s
variable {pins:List (Addr×Obj)}{σ:St}{H:Hp}{s:Fp}{its:qw}{x:V}{v:Value}
section
variable {X:Cx}{a b:Expr}{ta tb:TE}{pos:Pos}
theorem aX {r:R2}(hr:Ds X r)(ha:PE X a ta)(hb:PE X b tb)(hs:Ai b):PE X (.Subscript a b pos) (qP r ta tb):=by
 intro pins s σ H Q I h;exact Subscript_ (Bg ha hb I h λv u s2 x y H2 I2 rx ry q=>hr a b pins s2 σ H2 x y v u Q I2 rx ry q (hs _ _))
noncomputable def EV (K:PySem.W.Frag):R2:=λx y H Q=>∃p xs i v,x=.ref p/\y=.int i/\aY K H p xs/\vp xs i=some v/\Q v H
noncomputable def BB (K:PySem.W.Frag):R2:=λx y H Q=>∃p xs i v,x=.ref p/\y=.int i/\bf K H p xs/\vp xs i=some v/\Q v H
theorem bM:Ds X (EV X.K):=by
 intro value slice pins s σ H x y v u Q I rx ry h hs;obtain⟨p,xs,i,z,rfl,rfl,hq,he,q⟩:=h
 cases rx
 obtain⟨t,rfl⟩:=ry;obtain⟨its,r,pl,hz⟩:=I.list hq;obtain⟨j,h1,h2,h3,h4,h5⟩:=ud he;obtain⟨w,ew,GI⟩:=r.get h2;have hl:=r.length;have hn:=kJ;have fin:EP X pins σ Q w s:=⟨z,H,I,GI,q⟩
 by_cases h0:0<=i
 ·have hj:i.toNat=j:=by
   rw[seqIndex_of h0 h5] at h1;exact Option.some.inj h1
  exact item_listR pl.isList h0 (by omega) (by rw[hj];simpa using ew) fin hs
 ·have hj:(i+(its.toArray.size:Int)).toNat=j:=by
   rw[seqIndex_neg (by omega) h4] at h1;rw[List.size_toArray,<-hl];exact Option.some.inj h1
  exact subscriptTail_builtinR (x:=w) pl.isList.typeIs slot_list_getitem.lookup
   (wpAny_getItem_list_neg (Q:=λr s'=>r=w/\EP X pins σ Q r s') pl.isList (by omega) (by rw[List.size_toArray] <;> omega) (by omega) (by rw[hj];simpa using ew) ⟨rfl,fin⟩) hs
theorem bw:Ds X (BB X.K):=by
 intro value slice pins s σ H x y v u Q I rx ry h hs;obtain⟨p,xs,i,z,rfl,rfl,hq,he,q⟩:=h
 cases rx
 obtain⟨t,rfl⟩:=ry;obtain⟨its,r,pl,hz⟩:=I.tuple hq;obtain⟨j,h1,h2,h3,h4,h5⟩:=ud he;obtain⟨w,ew,GI⟩:=r.get h2;have hl:=r.length;have hn:=kJ;have fin:EP X pins σ Q w s:=⟨z,H,I,GI,q⟩
 exact subscriptTail_builtinR (x:=w) pl.typeIs slot_tuple_getitem.lookup
  (getItem_tuple (j:=j) (Q:=λr s'=>r=w/\EP X pins σ Q r s') pl (by omega) (by omega) (by rw[List.size_toArray,<-hl];exact h1) (by simpa using ew) ⟨rfl,fin⟩) hs
theorem qJ (its:qw)(n j:Nat)(u:Value):Obj.mapSeq (·.setIfInBounds j u) {cls:=.type "list",data:=.seq its.toArray n}={cls:=.type "list",data:=.seq (its.set j u).toArray n}:=by
 simp[Obj.mapSeq]
theorem Inv.lst {p:Addr}(I:Inv X pins σ H s)(h:H p=some (.lst xs)):
 ∃(its:qw)(n:Nat),aG xs its/\s.heap.get? p=some {cls:=.type "list",data:=.seq its.toArray n}/\xs.length<=sizeLine:=by
 obtain⟨z,its,n,r,e⟩:=I.hok p _ h;exact⟨its,n,r,e,z⟩
theorem Inv.acf {p:Addr}{ys:List V}{its':qw}{n':Nat}{f:Obj->Obj}(I:Inv X pins σ H s)(h:H p=some (.lst xs))
 (ho:s.heap.get? p=some {cls:=.type "list",data:=.seq its.toArray n})(hf:f {cls:=.type "list",data:=.seq its.toArray n}={cls:=.type "list",data:=.seq its'.toArray n'})(r:aG ys its')(hz:ys.length<=sizeLine)(t:Nat):
 Inv X pins σ (upd H p (.lst ys)) {s with heap:=s.heap.update p f,toks:=t}:=by
 have e:(s.heap.update p f).get? p=some {cls:=.type "list",data:=.seq its'.toArray n'}:=by
  rw[Heap.get?_update_self f ho (by rw[hf] <;> rfl),hf]
 refine I.write (x:=p) (e:=p) (by rw[h];trivial) (.inl rfl) (λb u hb q=>(Heap.get?_update_other _ _ (Ne.symm hb)).trans q) ⟨_,e⟩ ?_;exact⟨hz,its',n',r,e⟩
noncomputable def aco:V->V->V->Hp->(Hp->Prop)->Prop:=λo i v H Q=>∃p xs k j,o=.ref p/\i=.int k/\H p=some (.lst xs)/\zt xs.length k=some j/\Q (upd H p (.lst (xs.set j v)))
theorem j8:Dr X aco:=by
 intro pins s σ H o i v ov iv u Q I ro ri rv h;obtain⟨p,xs,k,j,rfl,rfl,hp,hj,q⟩:=h
 cases ro
 obtain⟨t,rfl⟩:=ri;obtain⟨its,n,r,ho,hz⟩:=I.lst hp;obtain⟨h1,h2,h3,h4⟩:=uw hj;have hl:=r.length;have hn:=kJ
 have I':Inv X pins σ (upd H p (.lst (xs.set j v))) {s with heap:=s.heap.update p (Obj.mapSeq (·.setIfInBounds j u))}:=
  I.acf hp ho (qJ its n j u) (r.set rv j) (by rw[List.length_set];exact hz) s.toks
 by_cases h0:0<=k
 ·have hk:k.toNat=j:=by
   rw[seqIndex_of h0 h4] at h1;exact Option.some.inj h1
  exact PySem.W.ki_setAt ho h0 (by omega) (by rw[List.size_toArray,<-hl];exact h4) (by rw[hk];exact⟨_,I',q⟩)
 ·have hk:(k+(its.toArray.size:Int)).toNat=j:=by
   rw[seqIndex_neg (by omega) h3] at h1;rw[List.size_toArray,<-hl];exact Option.some.inj h1
  exact PySem.W.ki_setBack ho (by omega) (by rw[List.size_toArray,<-hl];exact h3) (by omega) (by rw[hk];exact⟨_,I',q⟩)
noncomputable def eK:V->Bool
 | .non=>true
 | .bl _=>true
 | .int _=>true
 | .str _=>true
 |_=>false
noncomputable def vL:V->V->Bool
 | .non,.non=>true
 | .bl a,.bl b=>a==b
 | .bl a,.int b=>(if a then 1 else 0)==b
 | .int a,.bl b=>a==(if b then 1 else 0)
 | .int a,.int b=>a==b
 | .str a,.str b=>a==b
 |_,_=>false
theorem rQ {A:Around}{y:V}{u:Value}(ry:aC y u)(rx:aC x v)(fy:eK y=true)(fx:eK x=true):SeqAt.EqAt A s u v (vL y x):=by
 cases y with
 |non =>
  cases ry
  cases x with
  |non=>cases rx;exact SeqAt.EqAt.same _
  |bl b=>cases rx;exact SeqAt.EqAt.none_bool b
  |int b=>obtain⟨t,rfl⟩:=rx;exact SeqAt.EqAt.none_int b t
  |str b=>obtain⟨t,rfl⟩:=rx;exact SeqAt.EqAt.none_str b t
  |_=>exact absurd (show false=true from fx) Bool.false_ne_true
 |bl a =>
  cases ry
  cases x with
  |non=>cases rx;exact SeqAt.EqAt.bool_none a
  |bl b=>cases rx;exact SeqAt.EqAt.bool_bool a b
  |int b=>obtain⟨t,rfl⟩:=rx;exact SeqAt.EqAt.bool_int a b t
  |str b=>obtain⟨t,rfl⟩:=rx;exact SeqAt.EqAt.bool_str a b t
  |_=>exact absurd (show false=true from fx) Bool.false_ne_true
 |int a =>
  obtain⟨t',rfl⟩:=ry
  cases x with
  |non=>cases rx;exact SeqAt.EqAt.int_none a t'
  |bl b=>cases rx;exact SeqAt.EqAt.int_bool a t' b
  |int b=>obtain⟨t,rfl⟩:=rx;exact SeqAt.EqAt.int_int a t' b t
  |str b=>obtain⟨t,rfl⟩:=rx;exact SeqAt.EqAt.int_str a t' b t
  |_=>exact absurd (show false=true from fx) Bool.false_ne_true
 |str a =>
  obtain⟨t',rfl⟩:=ry
  cases x with
  |non=>cases rx;exact SeqAt.EqAt.str_none a t'
  |bl b=>cases rx;exact SeqAt.EqAt.str_bool a t' b
  |int b=>obtain⟨t,rfl⟩:=rx;exact SeqAt.EqAt.str_int a t' b t
  |str b=>obtain⟨t,rfl⟩:=rx;exact SeqAt.EqAt.str_str a t' b t
  |_=>exact absurd (show false=true from fx) Bool.false_ne_true
 |_=>exact absurd (show false=true from fy) Bool.false_ne_true
noncomputable def vM (x:V)(u:Value):Bool:=match u with
 | .none=>vL .non x
 | .bool b=>vL (.bl b) x
 | .int i _=>vL (.int i) x
 | .str z _=>vL (.str z) x
 |_=>false
theorem gX {y:V}{u:Value}(r:aC y u)(f:eK y=true):vM x u=vL y x:=by
 cases y with
 |non=>cases r;rfl
 |bl b=>cases r;rfl
 |int i=>obtain⟨t,rfl⟩:=r;rfl
 |str z=>obtain⟨t,rfl⟩:=r;rfl
 |_=>exact absurd (show false=true from f) Bool.false_ne_true
theorem ni :∀{xs:List V}{us:qw},aG xs us->xs.all eK=true->us.any (vM x)=xs.any λy=>vL y x
 |_,_,.nil,_=>rfl
 |y::xs,u::us,.cons r t,f=>by
  rw[List.all_cons,Bool.and_eq_true] at f;rw[List.any_cons,List.any_cons,gX r f.1,ni t f.2]
theorem jI {A:Around}(rx:aC x v)(fx:eK x=true):∀{xs:List V}{us:qw},aG xs us->xs.all eK=true->∀u∈us,SeqAt.EqAt A s u v (vM x u)
 |_,_,.nil,_=>λu hu=>by cases hu
 |y::xs,u::us,.cons r t,f=>λu' hu=>by
  rw[List.all_cons,Bool.and_eq_true] at f
  rcases List.mem_cons.mp hu with rfl|hu
  ·rw[gX r f.1];exact rQ r rx f.1 fx
  ·exact jI rx fx t f.2 u' hu
noncomputable def CI (x:V)(xs:List V):Bool:=xs.any λy=>vL y x
noncomputable def Fx (K:PySem.W.Frag)(neg:Bool):R2:=λx y H Q=>∃p xs,y=.ref p/\(aY K H p xs\/bf K H p xs)/\eK x=true/\xs.all eK=true/\Q (.bl (if neg then !CI x xs else CI x xs)) H
theorem nk:fu X (compareOp .NotIn) (Fx X.K true):=by
 intro pins s σ H x y v u Q I rx ry h;obtain⟨p,xs,rfl,hq,fx,fs,q⟩:=h
 cases ry
 rcases hq with hq|hq
 ·obtain⟨its,r,pl,hz⟩:=I.list hq;refine SeqAt.notIn_listAt (vM x) pl.isList (λw hw=>jI rx fx r fs w (by simpa using hw)) ⟨.bl _,H,I,rfl,?_⟩;rw[show its.toArray.any (vM x)=its.any (vM x) by simp,ni r fs];exact q
 ·obtain⟨its,r,pl,hz⟩:=I.tuple hq;refine SeqAt.notIn_tupleAt (vM x) pl (λw hw=>jI rx fx r fs w (by simpa using hw)) ⟨.bl _,H,I,rfl,?_⟩;rw[show its.toArray.any (vM x)=its.any (vM x) by simp,ni r fs];exact q
theorem bU:bZ X (.builtin "len") (λxs H Q=>∃p ys,xs=[.ref p]/\(aY X.K H p ys\/bf X.K H p ys)/\Q (.int ys.length) H):=by
 intro pins s σ H xs us Q I r h;obtain⟨p,ys,rfl,hq,q⟩:=h;obtain⟨u,rfl,rx⟩:=fE r
 cases rx
 have hn:=kJ
 rcases hq with hq|hq
 ·obtain⟨its,r',pl,hz⟩:=I.list hq;have hlen:=r'.length;exact Calls.call_len_list pl.isList (by simp only[List.size_toArray] <;> omega) ⟨.int ys.length,H,I.tok _,⟨s.toks+1,by rw[List.size_toArray,hlen]⟩,q⟩
 ·obtain⟨its,r',pl,hz⟩:=I.tuple hq;have hlen:=r'.length;exact len_tuple pl (by simp only[List.size_toArray] <;> omega) ⟨.int ys.length,H,I.tok _,⟨s.toks+1,by rw[List.size_toArray,hlen]⟩,q⟩
theorem oB:bZ X (.type "list") (λxs H Q=>∃p ys,xs=[.ref p]/\(aY X.K H p ys\/bf X.K H p ys)/\∀l,H l=none->Q (.ref l) (upd H l (.lst ys))):=by
 intro pins s σ H xs us Q I r h;obtain⟨p,ys,rfl,hq,q⟩:=h;obtain⟨u,rfl,rx⟩:=fE r
 cases rx
 have fin:∀(its:qw),aG ys its->ys.length<=sizeLine->∀(h':Heap)(c':Nat),(∀b o',s.heap.get? b=some o'->h'.get? b=some o') →
  h'.get? s.heap.objs.size=some {cls:=.type "list",dict:=none,data:=.seq its.toArray c',slots:=#[]}->EP X pins σ Q (.ref s.heap.objs.size) {s with heap:=h'}:=λits r' hz h' c' kp e =>
  ⟨.ref s.heap.objs.size,_,I.laid (t':=s.toks) kp (Nat.le_refl _) (show ba X.prog X.w _ h' _ (.lst ys) from⟨hz,its,c',r',e⟩),rfl,q _ (I.hok.fresh (Nat.le_refl _))⟩
 rcases hq with hq|hq
 ·obtain⟨its,r',pl,hz⟩:=I.list hq;have hlen:=r'.length;obtain⟨o,ho,hc,n,hd⟩:=pl.isList;exact call_list_seq p (.inl rfl) ho hc hd (λh' c' kp e=>fin its r' hz h' c' kp e) (by simp only[List.size_toArray] <;> omega)
 ·obtain⟨its,r',pl,hz⟩:=I.tuple hq;have hlen:=r'.length;obtain⟨o,ho,hc,n,hd⟩:=pl;exact call_list_seq p (.inr rfl) ho hc hd (λh' c' kp e=>fin its r' hz h' c' kp e) (by simp only[List.size_toArray] <;> omega)
theorem lL:bZ X (.type "tuple") (λxs H Q=>∃p ys,xs=[.ref p]/\((aY X.K H p ys/\∀l,H l=none->Q (.ref l) (upd H l (.tup ys)))\/(bf X.K H p ys/\Q (.ref p) H))):=by
 intro pins s σ H xs us Q I r h;obtain⟨p,ys,rfl,h⟩:=h;obtain⟨u,rfl,rx⟩:=fE r
 cases rx
 rcases h with⟨hq,q⟩|⟨hq,q⟩
 ·obtain⟨its,r',pl,hz⟩:=I.list hq;have hlen:=r'.length;refine call_tuple_list pl.isList (λh' kp=>?_) (by simp only[List.size_toArray] <;> omega);have I1:Inv X pins σ H {s with heap:=h'}:=I.kept (t':=s.toks) kp
  have I2:Inv X pins σ (upd H h'.objs.size (.tup ys)) {s with heap:=h'.push {cls:=.type "tuple",data:=.seq its.toArray} }:=
   I1.laid (t':=s.toks) (λb o e=>Heap.get?_push_of_some _ e) (Nat.le_refl _) (show ba X.prog X.w _ _ _ (.tup ys) from⟨hz,its,r',IsTup.new _ _⟩)
  exact⟨.ref h'.objs.size,_,I2,rfl,q _ (I1.hok.fresh (Nat.le_refl _))⟩
 ·obtain⟨its,r',pl,hz⟩:=I.tuple hq;exact call_tuple_same pl ⟨.ref p,H,I,rfl,q⟩
noncomputable def Fh (K:PySem.W.Frag)(T:String)(x:V)(H:Hp):Prop:=match x with
 | .str _=>T="str"
 | .int _=>T="int"
 | .ref p=>(T="list"/\∃xs,aY K H p xs)\/(T="tuple"/\∃o,K.lookup p=some o/\o.cls=.type "tuple"/\o.dict=none) \/
  (T="dict"/\((∃FF,H p=some (.dK FF))\/∃FF,H p=some (.dT FF)))\/(T="set"/\∃S n,H p=some (.set S n))
 |_=>False
theorem Bm {T:String}(I:Inv X pins σ H s)(r:aC x v)(ty:Fh X.K T x H):
 s.TypeIs v T/\∀a,v=.ref a->∃ob,s.heap.get? a=some ob/\ob.dict=none:=by
 cases x with
 |str z =>
  obtain⟨t,rfl⟩:=r
  cases(show T="str" from ty)
  exact⟨typeIs_str s z t,λ_ e=>nomatch e⟩
 |int i =>
  obtain⟨t,rfl⟩:=r
  cases(show T="int" from ty)
  exact⟨typeIs_int s i t,λ_ e=>nomatch e⟩
 |ref p =>
  cases r
  rcases ty with⟨rfl,xs,hq⟩|⟨rfl,o,hk,hc,hd⟩|⟨rfl,hk⟩|⟨rfl,S,n,hk⟩
  ·obtain⟨its,_,pl,_⟩:=I.list hq;refine⟨pl.isList.typeIs,λa e=>?_⟩
   cases e
   obtain⟨o,n,e,c,hd,_⟩:=pl;exact⟨o,e,hd⟩
  ·refine⟨⟨o,I.kIn p o hk,hc⟩,λa e=>?_⟩
   cases e
   exact⟨o,I.kIn _ o hk,hd⟩
  ·have z:∃o,s.heap.get? p=some o/\o.ExactDict:=by
    rcases hk with⟨FF,hk⟩|⟨FF,hk⟩
    ·obtain⟨_,_,_,_,o,_,_,e,ex,_⟩:=I.hok p _ hk;exact⟨o,e,ex⟩
    ·obtain⟨_,_,_,_,o,_,_,e,ex,_⟩:=I.hok p _ hk;exact⟨o,e,ex⟩
   obtain⟨o,e,ex⟩:=z;refine⟨⟨o,e,ex.1⟩,λa e2=>?_⟩
   cases e2
   exact⟨o,e,ex.2.1⟩
  ·obtain⟨o,_,_,_,e,ex,_⟩:=I.hok p _ hk;refine⟨⟨o,e,ex.1⟩,λa e2=>?_⟩
   cases e2
   exact⟨o,e,ex.2.1⟩
 |_=>exact False.elim ty
noncomputable def Fz (K:PySem.W.Frag)(T:String)(r:V->List V->Hp->VK->Prop)(to:TE)(t:TA):TE:=λσ H Q=>to σ H λx H1=>Fh K T x H1/\t σ H1 λxs H2=>r x xs H2 Q
variable {o e:Expr}{es:Bo}{to:TE}{t:TA}{name:Str}{apos FU:Pos}{T id:String}{r:V->List V->Hp->VK->Prop}
theorem yn (pa:PlainAttrs T)(slot:Slot T name id)(VZ:typeOf (.builtin id)=pure (.type "method_descriptor"))(hm:DU X id r)(ho:PE X o to)(ha:PA X (e::es) t)
 (Iu:attributeBase o name X.env (eval o X.env)=eval o X.env:=by rfl)
 (Qe:((backTo FU (starEach (e::es) X.env)).all (λx=>!x.1)&&(backToKw FU (keywordEach [] X.env)).all (λx=>x.1.isSome)
  && decide ((e::es).length+([]:List Keyword).length+(if([]:List Keyword).isEmpty then 0 else 1)<30))=true:=by rfl)
 (Iv:(apos.endLine==FU.line)=true:=by rfl)(hs:starEach (e::es) X.env=(false,eval e X.env):: starEach es X.env:=by rfl)(KL:(backTo FU (starEach es X.env)).any (·.1)=false:=by rfl):
 PE X (.Call (.Attribute o name apos) (e::es) [] FU) (Fz X.K T r to t):=by
 intro pins s σ H Q I h;refine wpAny_Call_method_late Iu Qe Iv rfl (bp (ho pins s σ H _ I h) λv s1 z'=>?_);obtain⟨x,H1,I1,r1,ty,q1⟩:=z';obtain⟨h1,h2⟩:=Bm I1 r1 ty;refine⟨T,id,pa,slot,VZ,h1,h2,?_⟩;have hA:=ha FU pins s1 σ H1 _ I1 q1;rw[hs] at hA |-;refine Calls.callWith_builtin (by show(false || (backTo FU (starEach es X.env)).any (·.1))=false;rw[KL] <;> rfl) (Calls.evalArgs_plain ?_);exact bp hA λus s2 ⟨vs,H2,I2,r2,q2⟩=>hm pins s2 σ H2 x vs v us Q I2 r1 r2 q2
/- xs.append(e),list.index on a Mg tuple .. are DU facts of 06m -/
end
noncomputable def Fk (X:Cx)(id:String)(r:V->List V->Hp->VK->Prop):Prop :=
 ∀(pins:List (Addr×Obj))(s:Fp)(σ:St)(H:Hp)(x:V)(xs:List V)(v:Value)(us:qw)(Q:VK),Inv X pins σ H s->aC x v->aG xs us->r x xs H Q →
  wpAny (model X.prog X.w) X.A (call (.builtin id) (v::us)) (EP X pins σ Q) X.xe s
theorem aG.one:∀{x:V}{us:qw},aG [x] us->∃u,us=[u]/\aC x u
 |_,_,.cons r .nil=>⟨_,rfl,r⟩
section
variable {X:Cx}{pins:List (Addr×Obj)}{σ:St}{H:Hp}{s:Fp}{l b:Addr}{xs ys zs:List V}
theorem Inv.acA {its':qw}{f:Array Value->Array Value}{t':Nat}(I:Inv X pins σ H s)(hH:H l=some (.lst xs))
 (e:s.heap.get? l=some {cls:=.type "list",data:=.seq its.toArray n})(hf:f its.toArray=its'.toArray)(hv:aG ys its')(hz:ys.length<=sizeLine):
 Inv X pins σ (upd H l (.lst ys)) {s with heap:=s.heap.update l (Obj.mapSeq f),toks:=t'}:=by
 have q:=PySem.IsL.update e f;rw[hf] at q;refine I.write (x:=l) (e:=l) (by rw[hH];exact trivial) (.inl rfl) (λb' u hb hu=>(Heap.get?_update_other s.heap (Obj.mapSeq f) (Ne.symm hb)).trans hu) ⟨_,q⟩ ?_;exact⟨hz,its',_,hv,q⟩
theorem Inv.acB {t':Nat}(I:Inv X pins σ H s)(hv:aG ys its)(hz:ys.length<=sizeLine):
 Inv X pins σ (upd H s.heap.objs.size (.lst ys)) {s with heap:=s.heap.push {cls:=.type "list",data:=.seq its.toArray},toks:=t'}:=
 I.laid (λ_ _ q=>Heap.get?_push_of_some _ q) (Nat.le_refl _) ⟨hz,its,0,hv,Heap.get?_push_size _ rfl⟩
theorem Inv.fresh (I:Inv X pins σ H s):H s.heap.objs.size=none:=I.hok.fresh (Nat.le_refl _)
theorem Inv.acg (I:Inv X pins σ H s)(hH:H l=some (.lst xs)):xs.length<=sizeLine/\∃(its:qw)(n:Nat),aG xs its/\xs.length=its.length/\s.heap.get? l=some {cls:=.type "list",data:=.seq its.toArray n}:=by
 obtain⟨z,its,n,r,e⟩:=I.hok l _ hH;exact⟨z,its,n,r,r.length,e⟩
end
section
variable {X:Cx}
noncomputable def abZ:V->List V->Hp->VK->Prop:=λx vs H Q=>∃l xs y,x=.ref l/\vs=[y]/\H l=some (.lst xs)/\xs.length<sizeLine/\Q .non (upd H l (.lst (xs++[y])))
theorem vi:Fk X "list.append" abZ:=by
 intro pins s σ H x vs v us Q I rx rv h;obtain⟨l,xs,y,rfl,rfl,hH,hz,q⟩:=h
 cases rx
 obtain⟨u,rfl,ru⟩:=rv.one;obtain⟨z,its,n,r,hl,e⟩:=I.acg hH;refine call_meets F.slot_list_append ⟨_,e,rfl⟩ F.entry_list_append (F.args_list_append_2 _ _) (PySem.list_append l its.toArray n u (by rw[List.size_toArray];omega)) ⟨e,?_⟩;refine⟨.non,_,I.acA (its':=its++[u]) hH e (by simp) (r.append (.cons ru .nil)) ?_,rfl,q⟩;rw[List.length_append,List.length_singleton];omega
noncomputable def acC:R2:=λx y H Q=>∃l b xs zs,x=.ref l/\y=.ref b/\H l=some (.lst xs)/\H b=some (.lst zs)/\xs.length+zs.length<=sizeLine/\∀p,H p=none->Q (.ref p) (upd H p (.lst (xs++zs)))
theorem Bs:fu X (binaryOp .Add) acC:=by
 intro pins s σ H x y v u Q I rx ry h;obtain⟨l,b,xs,zs,rfl,rfl,hH,hB,hz,q⟩:=h
 cases rx
 cases ry
 obtain⟨z,its,n,r,hl,e⟩:=I.acg hH;obtain⟨z2,FK,n2,r2,Hw,e2⟩:=I.acg hB;refine PySem.P.add_list e e2 ?_ (by rw[List.size_toArray,List.size_toArray];omega)
 have ea:its.toArray++FK.toArray=(its++FK).toArray:=by simp
 rw[ea];exact⟨.ref _,_,I.acB (t':=s.toks) (r.append r2) (by rw[List.length_append];omega),rfl,q _ I.fresh⟩
end
end L2
namespace TL
open PySem PySem.W PySem.Calls PyProof.Rows
theorem jg {P:Params}{h:Heap}:∀(ns:List Int)(vs:qw),WellAll P h vs (ns.map WData.int)->IntsAre vs ns:=by
 intro ns
 induction ns with
 |nil =>
  intro vs w;rw[List.map_nil] at w
  cases w
  exact .nil
 |cons n ns ih =>
  intro vs w;rw[List.map_cons] at w
  cases w with
  |cons a b =>
   cases a
   exact .cons _ _ (ih _ b)
theorem vk {l:OpenLaw}{n:Nat}(hn:l.most=some n){P:Params}{h:Heap}{args:List WData}{vals:qw}
 (Gx:l.row.toRowW.claim.pre args=true)(Qf:WellAll P h vals args):
 ∃a vs ns,vals=[Value.ref a]/\args=[WData.list (ns.map WData.int)]/\h.get? a=some {cls:=.type "list",data:=.seq vs.toArray}/\IntsAre vs ns/\ns.length<=n:=by
 have V0:WShape.hasAll [] args [.list .int]=true:=(pre_splitW Gx).1;have hc:l.pre.holds [] {args:=args}=true:=(pre_splitW Gx).2;obtain⟨d,r,rfl,h1,h2⟩:=hasAllW_cons V0;obtain rfl:=hasAllW_nil h2;obtain⟨xs,rfl,h3⟩:=hasW_list h1;obtain⟨ns,rfl⟩:=items_int h3
 have hlen:ns.length<=n:=by
  unfold OpenLaw.pre at hc
  have h4:(WTm.not (.lt (.lit (.int (n:Int))) (.len (.arg 0)))).holds [] {args:=[.list (ns.map .int)]}=true:=by
   have h4:=(holds_andW hc).1;rw[hn] at h4;exact h4
  have h5:=condW_of h4 (w_not (w_lt w_lit (w_len_list (w_arg rfl))));rw[List.length_map] at h5;refine Nat.le_of_not_lt λq=>?_
  have q':(n:Int)<((ns.length:Nat):Int):=by omega
  first
   |(rw[decide_eq_true q'] at h5;exact absurd h5 (by decide))
   |(simp at h5;omega)
 cases Qf with
 |cons w1 w2 =>
  cases w2
  cases w1 with
  |list ho Jo=>exact⟨_,_,ns,rfl,rfl,ho,jg ns _ Jo,hlen⟩
theorem uL (l:OpenLaw)(args:List WData):l.row.toRowW.claim.post args (.bool true) args=true :=
 postW_of (r:=l.row.toRowW) (X:=(true==true))
  (show WShape.has [] (.bool true) .bool=true by first|rfl|decide|simp[WShape.has,WShape.arms,WShape.armsAll])
  (show(WTm.eq .res (.lit (.bool true))).value [] {args:=args,res:=some (.bool true),after:=args}=some (.bool (true==true)) from w_eq_bool (w_res rfl) w_lit) rfl
theorem qd {l:OpenLaw}{n:Nat}{q:vQ}{loose:wk}{XP:(Str->Option Value)->Heap->Prop}{YP:World->Heap->Prop}{d:DefRec}
 (hn:l.most=some n)(Mh:d.params.defaults=[])
 (call:∀(w:World)(s₀ s₁:Fp)(mg mb:FA)(fa:Addr)(o:Obj)(pm cd doc:Value)(a:Addr)(vs:qw)(ns:List Int),
  Ground q loose [] XP w s₀ mg mb s₁.heap->YP w s₁.heap →
  s₁.heap.get? fa=some o->o.data=.func (docDef d.name d.params d.body d.scope pm cd doc)->s₁.heap.CodeRec cd d.name->mg d.name=some (.ref fa) →
  s₁.heap.get? a=some {cls:=.type "list",data:=.seq vs.toArray}->IntsAre vs ns->ns.length<=n->s₁.gens = #[] →
  codeAny (model l.prog w) callerA (.call (.ref fa) ⟨[.ref a],[]⟩) (λr s'=>r=.ok (.ret (.bool true))/\OldK s₁.heap s'.heap/\s'.os=s₁.os/\AllBare s'.gens) s₁):
 WalkO q loose XP YP l.row.toRowW d [] (λf vs=>PySem.call f vs):=by
 intro w s₀ s₁ mg mb G Y fa o pm cd doc dV kV ho hd Gs hD Qg hg args vals as Gx V1 hrd Qf hlo;obtain rfl:dV=.none:=Dflts.none hD Mh;obtain rfl:kV=.none:=Dflts.noKw hD;obtain⟨a,vs,ns,rfl,rfl,KN,hints,hlen⟩:=vk hn Gx Qf;refine enter_call (codeAny_mono (call w s₀ s₁ mg mb fa o pm cd doc a vs ns G Y ho (fd_plain hd) Gs Qg KN hints hlen hg) λr s' hq=>?_);obtain⟨rfl,h2,h3,h4⟩:=hq;exact⟨.inl ⟨.bool true,.bool true,[],rfl,λ_=>rfl,.bool true,uL l _,λ_=>⟨List.Pairwise.nil,λ_ hm=>(nomatch hm)⟩⟩,h2,h3,h4⟩
end TL
namespace L2
open PySem PySem.Spec PyProof.Rows
theorem mq:∀{vs:qw}{ns:List Int},IntsAre vs ns->aG (ns.map V.int) vs
 |_,_,.nil=>.nil
 |_,_,.cons n t h=>.cons ⟨t,rfl⟩ (mq h)
structure uB (K:PySem.W.Frag)(x qual:Str)(st:Stmt)(f:Addr)(fd:ET):Prop where
 ex:∃(oc:Value)(od:CC)(kV doc pm:Value)(an:CC)(FJ ct:Value)(F0:DP),
  fd=PySem.W.fnOf x qual (bH st) (bo st) (ao st) .none kV doc pm an FJ ct/\K.lookup f=some ⟨oc,od,.func fd,F0⟩/\PySem.W.codeIn K FJ qual=true
 kp:PySem.W.keepIn K (.ref f)=true
variable {x qual:Str}{st:Stmt}{f:Addr}{fd:ET}{ps:wk}
section
variable {P:vQ}{w:World}{K:PySem.W.Frag}{mg:FA}{base:Heap}
theorem uB.binds (F:uB K x qual st f fd)
 (h:∀(kV doc pm:Value)(an:CC)(FJ ct:Value)(us:qw),us.length=ps.length->bindArgs (PySem.W.fnOf x qual (bH st) (bo st) (ao st) .none kV doc pm an FJ ct) ⟨us,[]⟩=pure (ps.zip us)):aA K fd ps []:=by
 obtain⟨oc,od,kV,doc,pm,an,FJ,ct,F0,rfl,lk,Gs⟩:=F.ex;exact .all (h kV doc pm an FJ ct)
theorem Bj {oc:Value}{od an:CC}{F0:DP}{kV doc pm FJ ct:Value}(l:K.lookup f=some ⟨oc,od,.func (PySem.W.fnOf x qual (bH st) (bo st) (ao st) .none kV doc pm an FJ ct),F0⟩)
 (c:PySem.W.codeIn K FJ qual=true)(k:PySem.W.keepIn K (.ref f)=true):uB K x qual st f (PySem.W.fnOf x qual (bH st) (bo st) (ao st) .none kV doc pm an FJ ct):=⟨⟨oc,od,kV,doc,pm,an,FJ,ct,F0,rfl,l,c⟩,k⟩
end
theorem uC {n:Nat}(h:n<=1000):n<sizeLine:=Nat.lt_of_le_of_lt h (by decide)
variable {pos:Pos}
section
variable {X:Cx}
theorem pv (i:Nat)(hN:X.N[i]?=some x:=by rfl)(hv:D5 X.env.scope x:=by first|exact Or.inl rfl|exact Or.inr (Or.inl rfl)|exact Or.inr (Or.inr rfl))(hd:(x==("__debug__":Str))=false:=by decide)
 (Gs:(x==("__classdict__":Str))=false:=by decide):PE X (.Name x pos) (fH i):=aaV hN hv hd Gs
end
theorem b8 {A B:Prop}(h:B):if false=true then A else B:=by
 rw[if_neg Bool.false_ne_true];exact h
theorem cb {A B:Prop}(h:A):if true=true then A else B:=by
 rw[if_pos rfl];exact h
theorem cG {c A B:Prop} [Decidable c](h1:c->A)(h2:¬c->B):if c then A else B:=by
 by_cases h:c
 ·rw[if_pos h];exact h1 h
 ·rw[if_neg h];exact h2 h
noncomputable def ay (H H':Hp):Prop:=∀b o,H b=some o->H' b=some o
theorem ay.refl (H:Hp):ay H H:=λ_ _ h=>h
variable {H:Hp}
theorem ay.trans {H1 H2:Hp}(a:ay H H1)(b:ay H1 H2):ay H H2:=λc o h=>b c o (a c o h)
variable {P:vQ}{w:World}{h:Heap}{a:Addr}
theorem c6 {o:HO}(x:dM P w H h)(hn:H a=none)(new:ba P w (upd H a o) h a o):dM P w (upd H a o) h:=λb u e=>by
 by_cases hb:b=a
 ·subst hb;rw[ae] at e;cases e;exact new
 ·rw[ai hb] at e
  exact(x b u e).aaY (λc v _ q=>q) (λc q=>by rw[ai (av q hn)];exact q) λc xs q=>by rw[ai (av q hn)];exact q
variable {env:Env}
section
variable {prog:vQ}{w:World}{A:Around}{R:Result->Shared->Prop}{s:Fp}
theorem nQ {elt target iter:Expr}{ifs:Bo}{scope:Scope}{it acc:Value}(I:Nat->Shared->Prop)
 (turn:∀n s,I n s->wpAny (model prog w) A (pyNext it) (λr s₁=>match r with
  |none=>R (.ok .next) s₁
  |some v=>wpAny (model prog w) A (letOwnedTupleGo target it v) (λ_ s₁=>wpAny (model prog w) A (assign target env v) (λ_ s₂ =>
   wpAny (model prog w) A (forIn ifs true λc r=>if r=true then do let ok <-isTrue c env (eval c env);pure (ForInStep.yield ok) else pure (ForInStep.yield r)) (λok s₃ =>
    if ok=true then wpAny (model prog w) A (eval elt env) (λx s₄ =>
     wpAny (model prog w) A (call (.builtin "list.append") [acc,x]) (λ_ s₅=>∃m,m<n/\I m s₅) (λ_ _=>False) s₄) (λ_ _=>False) s₃
    else ∃m,m<n/\I m s₃) (λ_ _=>False) s₂) (λ_ _=>False) s₁) (λ_ _=>False) s₁) (λ_ _=>False) s)
 (n:Nat)(h:I n s):
 codeAny (model prog w) A (.compLoop (.ListComp elt [⟨target,iter,ifs,0⟩] scope pos) 0 it acc env) R s:=by
 refine codeAny_loop rfl I (λn s hI=>?_) n h;show wpAny _ A ((compTurn (.ListComp elt [⟨target,iter,ifs,0⟩] scope pos) 0 it acc env).onRaise (λx=>do noteFrame x env;theTreesLotGoes x)) _ _ s;refine wpAny_noted ?_;rw[compTurn_list];refine wpAny_bind (wpAny_standAt (wpAny_bind (wpAny_mono (turn n s hI) (λr s₁ h₁=>?_) λ_ _ z=>False.elim z)))
 cases r with
 |none=>exact wpAny_pure h₁
 |some v =>
  refine wpAny_bind (wpAny_mono h₁ (λ_ Qh KO=>?_) λ_ _ z=>False.elim z);refine wpAny_bind (wpAny_mono KO (λ_ s₂ h₂=>wpAny_bind (wpAny_mono h₂ (λok s₃ h₃=>?_) λ_ _ z=>False.elim z)) λ_ _ z=>False.elim z)
  cases ok with
  |false=>exact wpAny_pure ⟨rfl,h₃⟩
  |true =>
   exact wpAny_bind (wpAny_bind (wpAny_mono h₃ (λx s₄ h₄=>wpAny_bind (wpAny_mono h₄ (λ_ s₅ h₅=>wpAny_pure (wpAny_pure ⟨rfl,h₅⟩)) λ_ _ z=>False.elim z)) λ_ _ z=>False.elim z))
end
noncomputable def cZ (names:List (Str×NameKind))(env:Env):List (Str×Addr):=((names.filter λx=>x.2 == .free).map λx=>(x.1,(env.cells.lookup x.1).getD 0)).reverse
theorem gK {scope:Scope}(h:∀x∈scope.names,x.2=.free->∃c,env.cells.lookup x.1=some c):closureFor scope env=pure (cZ scope.names env):=by
 have key:∀(names:List (Str×NameKind))(cs:List (Str×Addr)),(∀x∈names,x.2=.free->∃c,env.cells.lookup x.1=some c) →
  (forIn names cs (λ(x:Str×NameKind)(r:List (Str×Addr))=>if(x.2==NameKind.free)=true then(do let a <-cellOf env x.1;pure (ForInStep.yield ((x.1,a):: r))) else pure (ForInStep.yield r)):Sem (List (Str×Addr)))=pure (cZ names env++cs):=by
  intro names
  induction names with
  |nil=>intro cs _;rfl
  |cons x r ih =>
   intro cs hn;rw[List.forIn_cons];obtain⟨n,k⟩:=x
   by_cases hk:k=.free
   ·subst hk;obtain⟨c,hc⟩:=hn (n,.free) List.mem_cons_self rfl
    have KP:cellOf env n=pure c:=by unfold cellOf;rw[hc]
    simp only[beq_self_eq_true,if_true,KP,pure_bind];rw[ih _ λy hy=>hn y (List.mem_cons_of_mem _ hy)];simp[cZ,hc]
   ·have hb:(k==NameKind.free)=false:=by simpa using hk
    simp only[hb,Bool.false_eq_true,if_false,pure_bind];rw[ih _ λy hy=>hn y (List.mem_cons_of_mem _ hy)];simp[cZ,hb]
 have z:=key scope.names [] h;rw[List.append_nil] at z;unfold closureFor
 first
  |exact z
  |(simp only[bind_pure];exact z)
  |(simp;exact z)
theorem iq {names:List (Str×NameKind)}(h:∀x∈names,x.2=.free->∃c,env.cells.lookup x.1=some c){c:Addr}(e:(cZ names env).lookup x=some c):env.cells.lookup x=some c:=by
 have m:=PySem.mem_of_lookup e;unfold cZ at m;rw[List.mem_reverse,List.mem_map] at m;obtain⟨y,hy,e'⟩:=m;rw[List.mem_filter] at hy;obtain⟨c',F1⟩:=h y hy.1 (by simpa using hy.2);rw[F1] at e'
 injection e' with e1 e2
 subst e1;rw[F1];exact congrArg some e2
theorem pW {names:List (Str×NameKind)}{env:Env}(hm:(x,NameKind.free)∈names):∃c,(cZ names env).lookup x=some c:=by
 have m:∃c,(x,c)∈cZ names env:=⟨(env.cells.lookup x).getD 0,by
  unfold cZ;rw[List.mem_reverse,List.mem_map]
  exact⟨(x,.free),List.mem_filter.mpr ⟨hm,rfl⟩,rfl⟩⟩
 obtain⟨c,m⟩:=m
 cases q:(cZ names env).lookup x with
 |some d=>exact⟨d,rfl⟩
 |none =>
  exfalso
  have:∀(l:List (Str×Addr)),(x,c)∈l->l.lookup x≠none:=by
   intro l
   induction l with
   |nil=>intro h;cases h
   |cons p r ih =>
    intro h;rw[List.lookup_cons]
    rcases List.mem_cons.mp h with h|h
    ·subst h;simp
    ·split
     ·simp
     ·exact ih h
  exact this _ m q
noncomputable def bD (X:Cx)(N:wk)(scope:Scope)(C:Addr)(fp:List Addr)(s:Fp)(H:Hp):Cx where
 prog:=X.prog
 w:=X.w
 K:=X.K
 mg:=X.mg
 base:=X.base
 A:=X.A
 N:=N
 s₀:=s
 H₀:=H
 env:=compEnvC scope (cZ scope.names X.env) C X.env
 outer:=X.stack
 stack:=X.stack
 ex:=fp
 fn:=λ_=>false
 calm:=X.calm
 pn:=[]
 xe:=λ_ _=>False
noncomputable def σC (nl:Nat)(js:List Nat)(σ:St):St:=List.replicate nl none++js.map λj=>(σ[j]?).join
structure Ew (X:Cx)(N:wk)(nl:Nat)(js:List Nat)(osc scope:Scope):Prop where
 out:X.env.scope=osc
 kind:scope.kind=.function
 cell:∀y∈scope.names,y.2≠.cell
 names:∀y∈scope.names,y.2=.local->scope.names.lookup y.1=some .local
 free:∀y∈scope.names,y.2=.free->osc.names.lookup y.1=some .cell\/osc.names.lookup y.1=some .free
 len:N.length=nl+js.length
 src:Paired (λj x=>X.N[j]?=some x/\(x,NameKind.free)∈scope.names) js (N.drop nl)
 acD:∀y∈scope.names,y.2=.free->scope.names.lookup y.1≠some .local
theorem e8 {env:Env}:∀{names:List (Str×NameKind)}{x:Str}{k:NameKind},(∀y∈names,y.2≠.cell) →
 (names.map λ(n,k)=>if(k==NameKind.free&&env.scope.kind == .function&&env.kindOf n==some .cell) then(n,NameKind.cell) else(n,k)).lookup x=some k->(k=.cell\/k=.free)->(x,NameKind.free)∈names
 |[],_,_,_,h,_=>by simp at h
 |(n,k0):: r,x,k,hc,h,hk=>by
  have h:List.lookup x ((if(k0==NameKind.free&&env.scope.kind == .function&&env.kindOf n==some .cell)=true then(n,NameKind.cell) else(n,k0)):: r.map λ(n,k)=>if(k==NameKind.free&&env.scope.kind == .function&&env.kindOf n==some .cell) then(n,NameKind.cell) else(n,k))=some k:=h;have ih:=@e8 env r x k λy hy=>hc y (List.mem_cons_of_mem _ hy)
  by_cases hx:x=n
  ·subst hx
   have Je:k0=.free:=by
    by_cases hb:(k0==NameKind.free&&env.scope.kind == .function&&env.kindOf x==some .cell)=true
    ·have:=(Bool.and_eq_true_iff.mp (Bool.and_eq_true_iff.mp hb).1).1;simpa using this
    ·rw[if_neg hb] at h;simp only[List.lookup_cons,beq_self_eq_true] at h;have e:k0=k:=Option.some.inj h
     rcases hk with z|z
     ·exact absurd (e.trans z) (hc (x,k0) List.mem_cons_self)
     ·exact e.trans z
   subst Je;exact List.mem_cons_self
  ·have hb:(x==n)=false:=by simpa using hx
   refine List.mem_cons_of_mem _ (ih ?_ hk)
   by_cases F1:(k0==NameKind.free&&env.scope.kind == .function&&env.kindOf n==some .cell)=true
   ·rw[if_pos F1] at h;simp only[List.lookup_cons,hb] at h;exact h
   ·rw[if_neg F1] at h;simp only[List.lookup_cons,hb] at h;exact h
variable {pins:List (Addr×Obj)}{σ:St}{b C:Addr}{s:Fp}{g:TG}{tt:TT}{te:TE}
section
variable {X:Cx}{tg iter elt:Expr}{ifs:Bo}{scope osc:Scope}{pos:Pos}{N:wk}{nl:Nat}{js:List Nat}
noncomputable def yo (X:Cx)(ifs:Bo)(t:TT):Prop :=
 ∀(pins:List (Addr×Obj))(s:Fp)(σ:St)(H:Hp)(Q:Bool->Hp->Prop),Inv X pins σ H s->t σ H Q →
  wpAny (model X.prog X.w) X.A (forIn ifs true λc r=>if r=true then do let ok <-isTrue c X.env (eval c X.env);pure (ForInStep.yield ok) else pure (ForInStep.yield r)) (TP X pins σ Q) X.xe s
noncomputable def Cc:TT:=λ_ H Q=>Q true H
theorem eR:yo X [] Cc:=λ_ _ _ H _ I h=>wpAny_tests_nil ⟨H,I,h⟩
theorem fj {c:Expr}{t:TT}(h:PT X c t):yo X [c] t:=λpins s σ H Q I hw=>wpAny_tests_one (h pins s σ H Q I hw)
theorem b9 {s:Fp}{h':Heap}(I:Inv X pins σ H s)(f:cf X pins H b)(sb:Heap.SameBut b s.heap h'):Inv X pins σ H {s with heap:=h'}:=
 I.turned (t':=s.toks) (λc o hc e=>(sb.2 c hc).trans e) f.1 f.2.1 f.2.2.2.1 f.2.2.2.2.1 f.2.2.2.2.2
noncomputable def ml (J:It)(g:TG)(tt:TT)(te:TE)(W:Nat->Nat->List V->St->Hp->Prop)(Fin:List V->Hp->Prop):Prop :=
 ∀i m xs σ' H',W i m xs σ' H'->xs.length<sizeLine/\((J.stop i H'/\Fin xs H') \/
  (J.go i H'/\∀x H2,J.yld i H' x H2->g x σ' H2 λσ3 H3=>tt σ3 H3 λb H4 =>
   if b=true then te σ3 H4 λy H5=>∃m',m'<m/\W (i+1) m' (xs++[y]) σ3 H5 else ∃m',m'<m/\W (i+1) m' xs σ3 H4))
theorem iZ {s:Fp}{fp:List Addr}{h1:Heap}{tk:Nat}(S:Ew X N nl js osc scope)(I:Inv X pins σ H s)(f:∀b∈fp,cf X pins H b)(Ie:∀b∈fp,b<s.heap.objs.size)
 (hC:s.heap.objs.size<=C)(old:∀b o,s.heap.get? b=some o->h1.get? b=some o){m1:FA}(LJ:h1.Ns C m1):
 Inv (bD X N scope C fp s H) [] (σC nl js σ) H {s with heap:=h1,toks:=tk}:=by
 have Gg:∀y∈scope.names,y.2=.free->X.env.kindOf y.1=some .cell\/X.env.kindOf y.1=some .free:=λy hy hf=>by
  have:=S.free y hy hf;rw[<-S.out] at this;exact this
 have Ge:∀y∈scope.names,y.2=.free->∃c,X.env.cells.lookup y.1=some c:=λy hy hf=>I.ok.has y.1 (Gg y hy hf);have sub:∀x c,(cZ scope.names X.env).lookup x=some c->X.env.cells.lookup x=some c:=λx c e=>iq Ge e
 have Jp:∀b∈fp,b∉cW X.stack:=λb hb z=>by
  rcases List.mem_cons.mp (I.aaE b z) with q|q
  ·exact(f b hb).2.1 q
  ·exact(f b hb).2.2.1 q
 refine⟨⟨I.ok.mod,S.kind,I.ok.glob,I.ok.blt,hC,λx y c e1 e2=>I.ok.inj x y c (sub x c e1) (sub y c e2),λx hx=>?_,λx c z _=>absurd z (by show ¬(false=true);decide),I.ok.hd,I.ok.frames,.inl rfl,
  λb hb=>⟨Nat.ne_of_lt (Nat.lt_of_lt_of_le (Ie b hb) hC),λx c e=>(f b hb).2.2.2.2.1 x c (sub x c e)⟩,I.bs,Nat.le_trans I.ok.bsz I.sz,λb o e hb=>?_,Jp,I.stack,I.aaP⟩,
  rfl,I.bare,Un.kept old,⟨m1,LJ,λi x v e1 e2 e3=>?_⟩,λx c e=>?_,I.hok.fresh hC,λx c e=>I.aaz x c (sub x c e),λp hp=>absurd (show p∈([]:List (Addr×Obj)) from hp) (by simp),I.hok.kept old,?_⟩
 ·have hx:(relabel scope X.env).names.lookup x=some .cell\/(relabel scope X.env).names.lookup x=some .free:=hx
  have m:(x,NameKind.free)∈scope.names:=by
   rcases hx with z|z
   ·exact e8 S.cell z (.inl rfl)
   ·exact e8 S.cell z (.inr rfl)
  exact pW m
 ·rcases(f b hb).2.2.2.1 with z|z
  ·exact I.ok.abo b o e z
  ·exact absurd (Nat.lt_of_lt_of_le (Heap.lt_size e) (Nat.le_trans I.ok.bsz z)) (Nat.lt_irrefl _)
 ·-- JF names
  have e1:N[i]?=some x:=e1;unfold σC at e2
  by_cases hi:i<nl
  ·rw[List.getElem?_append_left (by simpa using hi),List.getElem?_replicate] at e2
   split at e2 <;> cases e2
  ·obtain⟨k,rfl⟩:∃k,i=nl+k:=⟨i-nl,by omega⟩;rw[List.getElem?_append_right (by simp),List.length_replicate,Nat.add_sub_cancel_left,List.getElem?_map] at e2
   cases ej:js[k]? with
   |none=>rw[ej] at e2;cases e2
   |some j =>
    rw[ej] at e2;have e2:some ((σ[j]?).join)=some (some v):=e2;have e2:=Option.some.inj e2
    have e4:σ[j]?=some (some v):=by
     cases q:σ[j]? with
     |none=>rw[q] at e2;cases e2
     |some z=>rw[q] at e2;exact congrArg some e2
    have e5:(N.drop nl)[k]?=some x:=by rw[List.getElem?_drop];exact e1
    have gp:∀{l1:List Nat}{l2:wk}{k:Nat}{j:Nat}{x:Str},Paired (λj x=>X.N[j]?=some x/\(x,NameKind.free)∈scope.names) l1 l2->l1[k]?=some j->l2[k]?=some x->X.N[j]?=some x/\(x,NameKind.free)∈scope.names:=by
     intro l1 l2 k j x p
     induction p generalizing k with
     |nil=>intro h;simp at h
     |cons r _ ih =>
      intro h1 h2
      cases k with
      |zero=>simp at h1 h2;subst h1;subst h2;exact r
      |succ k=>exact ih (by simpa using h1) (by simpa using h2)
    obtain⟨hx,hm⟩:=gp S.src ej e5;have hk:=Gg (x,.free) hm rfl;obtain⟨m,hn,hl⟩:=I.loc
    have V2:D5 X.env.scope x:=by
     rcases hk with z|z
     ·exact .inr (.inl z)
     ·exact .inr (.inr z)
    obtain⟨u,r,l⟩:=hl j x v hx e4 V2;refine⟨u,r,?_⟩
    rcases l with⟨k1,_⟩|⟨_,c,hc,F8⟩
    ·exfalso
     rcases hk with z|z <;> (rw[z] at k1;cases k1)
    ·obtain⟨c',F1⟩:=pW (env:=X.env) hm;have:=sub x c' F1;rw[hc] at this
     cases this
     refine .inr ⟨?_,c,F1,?_⟩
     ·rcases e3 with z|z|z
      ·-- a name of JF OZ own: no
       exfalso
       have lk:scope.names.lookup x=some .local:=by
        have gen:∀(l:List (Str×NameKind)),(l.map λ(n,k)=>if(k==NameKind.free&&X.env.scope.kind == .function&&X.env.kindOf n==some .cell) then(n,NameKind.cell) else(n,k)).lookup x=some .local->l.lookup x=some .local:=by
         intro l
         induction l with
         |nil=>intro h;simp at h
         |cons p r ih =>
          obtain⟨n,k0⟩:=p;intro h;have h:List.lookup x ((if(k0==NameKind.free&&X.env.scope.kind == .function&&X.env.kindOf n==some .cell)=true then(n,NameKind.cell) else(n,k0)):: r.map λ(n,k)=>if(k==NameKind.free&&X.env.scope.kind == .function&&X.env.kindOf n==some .cell) then(n,NameKind.cell) else(n,k))=some .local:=h
          cases hb:x==n with
          |true =>
           by_cases F1:(k0==NameKind.free&&X.env.scope.kind == .function&&X.env.kindOf n==some .cell)=true
           ·rw[if_pos F1] at h;simp only[List.lookup_cons,hb] at h;cases h
           ·rw[if_neg F1] at h;simp only[List.lookup_cons,hb] at h |-;exact h
          |false =>
           simp only[List.lookup_cons,hb];refine ih ?_
           by_cases F1:(k0==NameKind.free&&X.env.scope.kind == .function&&X.env.kindOf n==some .cell)=true
           ·rw[if_pos F1] at h;simp only[List.lookup_cons,hb] at h;exact h
           ·rw[if_neg F1] at h;simp only[List.lookup_cons,hb] at h;exact h
        exact gen _ z
       exact S.acD (x,.free) hm rfl lk
      ·exact .inl z
      ·exact .inr z
     ·obtain⟨o,ho,hd⟩:=F8;exact⟨o,old _ _ ho,hd⟩
 ·obtain⟨v,o,ho,hd⟩:=I.cell x c (sub x c e);exact⟨v,o,old _ _ ho,hd⟩
 ·show(σC nl js σ).length=N.length;unfold σC;rw[List.length_append,List.length_replicate,List.length_map,S.len]
noncomputable abbrev ig (ys:qw)(k:Nat):Obj:={cls:=.type "list",data:=.seq ys.toArray k}
theorem jY {J:It}{it:Addr}{fp:List Addr}{tn:Nat->Heap->Prop}{W:Nat->Nat->List V->St->Hp->Prop}{Fin:List V->Hp->Prop}
 {E:yg}{RR:Value->Addr->Result->Shared->Prop}
 (S:Ew X N nl js osc scope)(hc:X.calm=true)(hg:∀C fp s H,PG (bD X N scope C fp s H) tg g)(ht:∀C fp s H,yo (bD X N scope C fp s H) ifs tt)(he:∀C fp s H,PE (bD X N scope C fp s H) elt te)
 (I:Inv X pins σ H s)(T:Turn X.prog X.w X.K tg J fp it tn)(st:tn 0 s.heap)(f:∀b∈fp,cf X pins H b)(w0:∃m,W 0 m [] (σC nl js σ) H)(hW:ml J g tt te W Fin)
 (Mi:∀(D C:Addr)(H':Hp)(s':Fp)(xs:List V)(m:FA),Inv X pins σ (upd H' D (.lst xs)) s'->H' D=none->s'.heap.Ns C m->cf X pins (upd H' D (.lst xs)) C->Fin xs H'->RR (.ref D) C (.ok .next) s'):
 wpAny (model X.prog X.w) X.A (newList []) (λacc s₃=>wpAny (model X.prog X.w) X.A (newFunctionEnv scope X.env.globals (cZ scope.names X.env) [] X.env.qual none .none (some X.env)) (λHj s₄ =>
  codeAny (model X.prog X.w) X.A (.compStart (.ListComp elt [⟨tg,iter,ifs,0⟩] scope pos) 0 (.ref it) acc {Hj with scope:=relabel scope X.env}) (RR acc Hj.locals) s₄) E s₃) E s:=by
 have Ie:∀b∈fp,b<s.heap.objs.size:=λb hb=>by
  obtain⟨o,e,_⟩:=T.obj 0 _ st b hb;exact Heap.lt_size e
 refine wpAny_newObj_type (wpAny_newFunctionEnv S.cell (by intro y hy;simp at hy) (λh₁ Gy Gm=>?_) S.kind);dsimp only at Gy Gm |-;generalize Ig:s.heap.push {cls:=.type "list",dict:=none,data:=.seq ([]:qw).toArray}=H2 at Gy Gm |-
 have hC:H2.objs.size=s.heap.objs.size+1:=by rw[<-Ig,Heap.size_push]
 have Jf:s.heap.objs.size≠H2.objs.size:=by rw[hC];exact Nat.ne_of_lt (Nat.lt_succ_self _)
 have below:∀b,b<s.heap.objs.size->b≠H2.objs.size/\b≠s.heap.objs.size:=λb hb=>⟨by rw[hC];exact Nat.ne_of_lt (Nat.lt_succ_of_lt hb),Nat.ne_of_lt hb⟩;have old:∀b o,s.heap.get? b=some o->h₁.get? b=some o:=λb o e=>Gm.extBut b o (below b (Heap.lt_size e)).1 (Heap.get?_push_of_some _ (Ig▸Heap.get?_push_of_some _ e));have KQ:h₁.get? s.heap.objs.size=some {cls:=.type "list",data:=.seq ([]:qw).toArray 0}:=Gm.extBut _ _ Jf (Heap.get?_push_of_some _ (Ig▸Heap.get?_push_size _ rfl))
 have HA:s.heap.objs.size<=H2.objs.size:=by rw[hC];exact Nat.le_succ _
 have Ge:∀y∈scope.names,y.2=.free->∃c,X.env.cells.lookup y.1=some c:=λy hy hf=>by
  have z:=S.free y hy hf;rw[<-S.out] at z;exact I.ok.has y.1 z
 have sub:∀x c,(cZ scope.names X.env).lookup x=some c->X.env.cells.lookup x=some c:=λx c e=>iq Ge e
 have Qi:∀x c,(cZ scope.names X.env).lookup x=some c->c<s.heap.objs.size:=λx c e=>by
  obtain⟨v,q⟩:=I.cell x c (sub x c e);exact q.lt
 have Jp:∀b∈fp,b∉cW X.stack:=λb hb z=>by
  rcases List.mem_cons.mp (I.aaE b z) with q|q
  ·exact(f b hb).2.1 q
  ·exact(f b hb).2.2.1 q
 have LK:s.heap.objs.size∉cW X.stack:=λz=>by
  rcases List.mem_cons.mp (I.aaE _ z) with q|q
  ·exact absurd I.lt (by rw[<-q];exact Nat.lt_irrefl _)
  ·exact I.ab7 (Nat.le_refl _) q
 have Mj:s.heap.objs.size∉fp:=λz=>Nat.lt_irrefl _ (Ie _ z)
 have Iw:∀{H':Hp}{ob:Obj},(∀b∈fp,H' b=none)->∀b∈fp,cf (bD X N scope H2.objs.size fp s H) [(s.heap.objs.size,ob)] H' b:=λ{H' ob} hn b hb =>
  ⟨hn b hb,(below b (Ie b hb)).1,Jp b hb,.inl hb,λx c e=>(f b hb).2.2.2.2.1 x c (sub x c e),λp hp z=>by
   have e:p=(s.heap.objs.size,ob):=by
    have:p∈[(s.heap.objs.size,ob)]:=hp;simpa using this
   subst e
   exact Mj (by rw[show s.heap.objs.size=b from z];exact hb)⟩
 have Qj:∀{H':Hp},H' s.heap.objs.size=none->cf (bD X N scope H2.objs.size fp s H) [] H' s.heap.objs.size:=λ{H'} hn =>
  ⟨hn,Jf,LK,.inr (Nat.le_refl _),λx c e=>Nat.ne_of_lt (Qi x c e),λp hp=>absurd (show p∈([]:List (Addr×Obj)) from hp) (by simp)⟩
 have Jq:∀{σ':St}{H':Hp}{s':Fp}{ys:qw}{k:Nat},Inv (bD X N scope H2.objs.size fp s H) [] σ' H' s'->H' s.heap.objs.size=none->s'.heap.get? s.heap.objs.size=some (ig ys k) →
  Inv (bD X N scope H2.objs.size fp s H) [(s.heap.objs.size,ig ys k)] σ' H' s':=λ{σ' H' s' ys k} I' hn hl=>I'.aaG λp hp=>by
  have e:p=(s.heap.objs.size,ig ys k):=by simpa using hp
  subst e;exact⟨hl,hn,Jf,LK,λv z=>by cases z⟩
 have loop:∀s₃:Shared,s₃={s with heap:=h₁,toks:=s.toks+([]:List (Str×Value)).length} →
  codeAny (model X.prog X.w) X.A (.compLoop (.ListComp elt [⟨tg,iter,ifs,0⟩] scope pos) 0 (.ref it) (.ref s.heap.objs.size) (compEnvC scope (cZ scope.names X.env) H2.objs.size X.env))
   (RR (.ref s.heap.objs.size) H2.objs.size) s₃:=by
  rintro s₃ rfl;obtain⟨m0,w0⟩:=w0;have I0:Inv (bD X N scope H2.objs.size fp s H) [] (σC nl js σ) H {s with heap:=h₁,toks:=s.toks+([]:List (Str×Value)).length}:=iZ S I f Ie HA old Gy
  refine nQ (λn s'=>∃i σ' H' xs ys k,Inv (bD X N scope H2.objs.size fp s H) [(s.heap.objs.size,ig ys k)] σ' H' s'/\tn i s'.heap/\(∀b∈fp,H' b=none)/\aG xs ys/\W i n xs σ' H') ?_ m0
   ⟨0,σC nl js σ,H,[],[],0,Jq I0 (I.hok.fresh (Nat.le_refl _)) KQ,T.keep _ _ _ st λb _ o e=>old b o e,λb hb=>(f b hb).1,.nil,w0⟩
  rintro n s' ⟨i,σ',H',xs,ys,k,I',Gj,JK,rv,w'⟩;obtain⟨hz,hw⟩:=hW i n xs σ' H' w'
  rcases hw with⟨stop,fin⟩|⟨go,step⟩
  ·refine wpAny_mono (T.done (bD X N scope H2.objs.size fp s H) rfl rfl rfl hc i _ s' σ' H' (λ_ _=>False) I' (Iw JK) Gj stop) (λr s1 z'=>?_) λ_ _ z=>z;obtain⟨hr,I1⟩:=z';subst hr;obtain⟨p1,p2,_⟩:=I1.pin (s.heap.objs.size,ig ys k) (by show _∈([]:List (Addr×Obj))++[_];simp);have u1:Un (cW X.stack) fp H H' s.heap s1.heap:=I1.base
   have u2:Un (cW X.stack) fp H (upd H' s.heap.objs.size (.lst xs)) s.heap s1.heap:=⟨u1.keep,u1.slot,λb o e n hx=>by rw[ai (Nat.ne_of_lt (Heap.lt_size e))];exact u1.free b o e n hx,u1.there,
    λb zs e=>by rw[ai (av (u1.aaC b zs e) p2)];exact u1.aaC b zs e,λb o zs e=>by rw[ai (av (u1.aaB b o zs e) p2)];exact u1.aaB b o zs e,λb ps e=>by
     obtain⟨mo,q⟩:=u1.aaI b ps e
     exact⟨mo,by rw[ai (av q p2)];exact q⟩⟩
   have hk:dM X.prog X.w (upd H' s.heap.objs.size (.lst xs)) s1.heap:=c6 I1.hok p2 ⟨Nat.le_of_lt hz,ys,k,rv,p1⟩;have I3:Inv X pins σ (upd H' s.heap.objs.size (.lst xs)) s1:=I.abp I1.os u2 hk I1.bare λb hb=>⟨(f b hb).2.2.2.1,(f b hb).2.1,(f b hb).2.2.2.2.1,(f b hb).2.2.2.2.2⟩;obtain⟨mm,JL,_⟩:=I1.loc
   have Qk:upd H' s.heap.objs.size (.lst xs) H2.objs.size=none:=by rw[ai (Ne.symm Jf)];exact I1.free
   exact Mi _ _ H' s1 xs mm I3 p2 JL (I.aa4 HA Qk) fin
  ·refine wpAny_mono (T.item (bD X N scope H2.objs.size fp s H) rfl rfl rfl hc i _ s' σ' H' (λ_ _=>False) I' (Iw JK) Gj go) (λr s1 z'=>?_) λ_ _ z=>z;obtain⟨u,hr,h4⟩:=z';subst hr;refine wpAny_mono h4 (λ_ s2 z'=>?_) λ_ _ z=>z;obtain⟨x,JM,I2,r2,y2,Gv,Ml⟩:=z';have Mm:=I2.pinned (Iw Ml) (T.obj _ _ Gv);refine wpAny_mono (hg _ _ _ _ _ s2 σ' JM x u _ Mm r2 (step x JM y2)) (λ_ s3 z'=>?_) λ_ _ z=>z;obtain⟨σ3,H3,I3,q3⟩:=z';refine wpAny_mono (ht _ _ _ _ _ s3 σ3 H3 _ I3 q3) (λok s4 z'=>?_) λ_ _ z=>z;obtain⟨H4,I4,q4⟩:=z'
   have back:∀{s5:Fp}{H5:Hp},Inv (bD X N scope H2.objs.size fp s H) ([(s.heap.objs.size,ig ys k)]++cU fp s2.heap) σ3 H5 s5->tn (i+1) s5.heap/\∀b∈fp,H5 b=none:=λ{s5 H5} I5 =>
    ⟨T.keep _ _ _ Gv λb hb o e=>(I5.pin (b,o) (List.mem_append_right _ (List.mem_append_right _ (bK hb e)))).1,λb hb=>by
     obtain⟨o,e,d⟩:=T.obj _ _ Gv b hb
     exact(I5.pin (b,o) (List.mem_append_right _ (List.mem_append_right _ (bK hb e)))).2.1⟩
   cases ok with
   |false =>
    rw[if_neg Bool.false_ne_true] at q4 |-;obtain⟨m',hm,w4⟩:=q4;exact⟨m',hm,i+1,σ3,H4,xs,ys,k,I4.aaA,(back I4).1,(back I4).2,rv,w4⟩
   |true =>
    rw[if_pos rfl] at q4 |-;refine wpAny_mono (he _ _ _ _ _ s4 σ3 H4 _ I4 q4) (λv s5 z'=>?_) λ_ _ z=>z;obtain⟨y,H5,I5,r5,m',hm,w5⟩:=z';obtain⟨p1,p2,_⟩:=I5.pin (s.heap.objs.size,ig ys k) (List.mem_append_right _ (List.mem_append_left _ (by simp)));obtain⟨Ma,P6⟩:=back I5;refine append_at (its:=ys.toArray) p1 (λh' sb hD=>?_) (by rw[List.size_toArray,<-rv.length];exact Nat.le_of_lt hz);have I6:Inv (bD X N scope H2.objs.size fp s H) [] σ3 H5 {s5 with heap:=h'}:=b9 (I5.aaG (pins':=[]) λp hp=>absurd hp (by simp)) (Qj p2) sb;refine⟨m',hm,i+1,σ3,H5,xs++[y],ys++[v],k+1,Jq I6 p2 ?_,T.keep _ _ _ Ma λb hb o e=>(sb.2 b λz=>Mj (z▸hb)).trans e,P6,rv.append (.cons r5 .nil),w5⟩;rw[hD];show some _=some (ig (ys++[v]) (k+1));rw[ig,<-List.push_toArray]
 exact codeAny_compStart_list (loop _ rfl) (T.self X.A 0 _ _ _ (T.keep _ _ _ st λb _ o e=>old b o e) (loop _ rfl))
noncomputable def AE (wi:TI)(g:TG)(tt:TT)(te:TE)(nl:Nat)(js:List Nat):TE:=λσ H Q=>wi σ H λJ H1 =>
 ∃W:Nat->Nat->List V->St->Hp->Prop,(∃m,W 0 m [] (σC nl js σ) H1)/\ml J g tt te W λxs H'=>∀D,H' D=none->Q (.ref D) (upd H' D (.lst xs))
theorem eX (S:Ew X N nl js osc scope)(I:Inv X pins σ H s):closureFor scope X.env=pure (cZ scope.names X.env):=gK λy hy hf=>by
 have z:=S.free y hy hf;rw[<-S.out] at z;exact I.ok.has y.1 z
theorem dN {wi:TI}(S:Ew X N nl js osc scope)(hc:X.calm=true)(hi:PI X tg iter wi)(hg:∀C fp s H,PG (bD X N scope C fp s H) tg g)(ht:∀C fp s H,yo (bD X N scope C fp s H) ifs tt)
 (he:∀C fp s H,PE (bD X N scope C fp s H) elt te)(hs:∀x,foldedSetIterable iter X.env x=pure x:=by intro _;rfl):
 PE X (.ListComp elt [⟨tg,iter,ifs,0⟩] scope pos) (AE wi g tt te nl js):=by
 intro pins s σ H Q I h;rw[eval_ListComp];refine wpAny_comprehension_free (use:=none) rfl hs (eX S I) S.kind S.names (bp (hi pins s σ H _ I h) λv s1 h1=>bp h1 λKG s2 h2=>?_);obtain⟨it,fp,tn,J,H2,e,I2,T,Gv,f2,W,w0,hW⟩:=h2;subst e;refine jY (RR:=λacc C=>compPost (model X.prog X.w) X.A X.xe none (EP X pins σ Q) acc C) S hc hg ht he I2 T Gv f2 w0 hW ?_;intro D C H' s' xs m I3 hD hn fC fin;exact⟨m,hn,λh' sb=>⟨.ref D,_,b9 I3 fC sb,rfl,fin D hD⟩⟩
theorem oo {i:Nat}{y:Str}{py Mn:Pos}{wi:TI}(S:Ew X N nl js osc scope)(hc:X.calm=true)(hN:X.N.Nodup)(hy:X.N[i]?=some y)(hl:DD X.env.scope y)(hi:PI X tg iter wi)
 (hg:∀C fp s H,PG (bD X N scope C fp s H) tg g)(ht:∀C fp s H,yo (bD X N scope C fp s H) ifs tt)(he:∀C fp s H,PE (bD X N scope C fp s H) elt te)
 (V3:swapsWith (.ListComp elt [⟨tg,iter,ifs,0⟩] scope pos) (some (.Name y py)) Mn.line X.env=pure true)(hs:∀x,foldedSetIterable iter X.env x=pure x:=by intro _;rfl)
 (hf:X.fn y=true\/X.env.scope.names.lookup y=some .local:=by first|exact .inl rfl|exact .inr rfl|assumption):
 PS X (.Assign [.Name y py] (.ListComp elt [⟨tg,iter,ifs,0⟩] scope pos) Mn) (zD (AE wi g tt te nl js) (bz i)):=by
 intro pins s σ H D I h;rw[exec_Assign_Name_used _ _ _ _ V3];refine wpAny_bind (wpAny_standAt (wpAny_bind ?_));show wpAny _ X.A (do let _ <-comprehension (.ListComp elt [⟨tg,iter,ifs,0⟩] scope pos) scope X.env _ (newList []) false (eval iter X.env) (some (assign (.Name y py) X.env))) _ _ s
 refine wpAny_bind (wpAny_mono (wpAny_comprehension_free (use:=some (assign (.Name y py) X.env)) (Q:=λ_ s'=>SP X pins D .next s') rfl hs (eX S I) S.kind S.names
  (bp (hi pins s σ H _ I h) λv s1 h1=>bp h1 λKG s2 h2=>?_)) (λ_ s' hq=>wpAny_pure (wpAny_pure hq)) λ_ _ e=>e)
 obtain⟨it,fp,tn,J,H2,e,I2,T,Gv,f2,W,w0,hW⟩:=h2;subst e;refine jY (RR:=λacc C=>compPost (model X.prog X.w) X.A X.xe (some (assign (.Name y py) X.env)) (λ_ s'=>SP X pins D .next s') acc C) S hc hg ht he I2 T Gv f2 w0 hW ?_;intro Dd C H' s' xs m I3 hD hn fC fin;show wpAny _ X.A (assign (.Name y py) X.env (.ref Dd)) _ _ _;refine wpAny_assign_Name (l8 I3 hN hy hl (show aC (.ref Dd) (.ref Dd) from rfl) (λs4 I4 z'=>?_) hf);obtain⟨a,sb,ha⟩:=z';refine⟨m,hn.sameBut sb ?_,λh' JN=>⟨_,_,b9 I4 fC JN,fin Dd hD⟩⟩
 rcases ha with z|z
 ·rw[z];exact fC.2.1
 ·exact λq=>fC.2.2.2.2.1 _ _ z q.symm
end
open PySem.W
noncomputable def Fo (h B:Heap)(e:Addr)(cls a0 fl:Value)(d:CC):Prop :=
 ∃(o:Obj)(vs:Cm)(T:Addr)(oT:Obj)(ts:Cm),h.get? e=some o/\o.dict=d/\(o.cls=cls/\vs[0]?=some a0)/\o.data=.fields vs/\vs[1]?=some (.ref T)/\B.get? T=none/\T≠e/\h.get? T=some oT/\oT.data=.fields ts/\ts[3]?=some fl
structure uY (B:Heap)(l:List Env)(e:Addr)(cls a0 fl:Value)(d:CC)(h:Heap):Prop where
 st:B.StaysIn h
 new:B.get? e=none
 fr:h.FunFrames B l
 tr:Fo h B e cls a0 fl d
variable {o:Obj}{vs:Cm}{l:List Env}{fl:Value}
section
variable {M:Model}{A:Around}{E:yg}{s:Fp}{B:Heap}{env:Env}{outer:List Env}{L e:Addr}{cls a0:Value}{d:CC}{Q:Unit->Shared->Prop}
theorem sC {hd:Value}{nx:Bool}(HS:A.frames=some (env::outer))(fr:s.heap.FunFrames B (env::outer))(hf:env.frame=some L)(st:B.StaysIn s.heap)(new:B.get? e=none)
 (he:s.heap.get? e=some o)(Hk:o.dict=d)(hc:o.cls=cls)(hv:o.data=.fields vs)(h1:1<vs.size)(h0:vs[0]?=some a0)
 (h:∀h',uY B (env::outer) e cls a0 (rawInt L) d h'->s.heap.UpToSlots h'->Q () {s with heap:=h'}):
 wpAny M A (do let a <-frameOf env;let pl <-entryPlaceOf L nx;let b <-EntryCells.newEntry hd a .none (rawInt L) .none pl;setField (.ref e) 1 b) Q E s:=by
 have nf:e∉(env::outer).filterMap (·.frame):=λm=>by
  obtain⟨_,o',Gq,q⟩:=fr.mem m;rw[he] at Gq;cases Gq;exact q vs hv
 refine wpAny_bind (wpAny_frameOf_fun HS fr hf λg sl=>wpAny_bind (wpAny_entryPlaceOf λpl Gw=>?_));unfold EntryCells.newEntry newFields;refine wpAny_bind (wpAny_newObj_type ?_ (Gw.sizeOk5 _ _ _ _ _));have e1:g.get? e=some o:=(sl.2.1 e nf).trans he;have Mo:B.StaysIn g:=λb ob q=>(sl.2.1 b λm=>by rw[(fr.mem m).1] at q;cases q).trans (st b ob q);have ne:g.objs.size≠e:=Nat.ne_of_gt (Heap.lt_size e1);have dv:=Obj.data_mapFields hv (·.setIfInBounds 1 (Value.ref g.objs.size))
 have kp:∀(oT:Obj) b ob,b≠e->g.get? b=some ob->((g.push oT).update e (Obj.mapFields (·.setIfInBounds 1 (Value.ref g.objs.size)))).get? b=some ob:=λoT b ob hb q =>
  (Heap.get?_update_other _ _ (Ne.symm hb)).trans (Heap.get?_push_of_some _ q)
 have nr:∀b ob,s.heap.get? b=some ob->(∀ws,ob.data≠.fields ws)->b≠e:=λb ob q hn z=>by rw[z,he] at q;cases q;exact hn vs hv
 refine wpAny_setField (Heap.get?_push_of_some _ e1) hv h1 (h _ ⟨λb ob q=>kp _ b ob (λz=>by rw[z,new] at q;cases q) (Mo b ob q),new,fr.of_keeps λb ob q hn=>?_,?_⟩ λb ob q hn=>?_)
 ·obtain⟨z,q1⟩:=sl.2.2 b ob q;exact⟨_,kp _ b _ (nr b ob q hn) q1,rfl⟩
 ·refine⟨_,_,g.objs.size,_,_,Heap.get?_update_self _ (Heap.get?_push_of_some _ e1) (Obj.isFreed_of_fields dv),?_,⟨(Obj.cls_mapFields _ _).trans hc,by rw[Array.getElem?_setIfInBounds_ne (by decide)];exact h0⟩,dv,by simp[h1],Mo.fresh,ne,
   (Heap.get?_update_other _ _ (Ne.symm ne)).trans (Heap.get?_push_size g rfl),rfl,by first|(simp;done)|(rcases Gw with rfl|⟨_,_,_,_,_,_,_,rfl⟩ <;> simp)⟩
  rw[<-Hk]
  cases o
  dsimp only at hv;subst hv;rfl
 ·obtain⟨z,q1⟩:=sl.2.2 b ob q;exact⟨z,kp _ b _ (nr b ob q hn) q1⟩
theorem xN (HS:A.frames=some (env::outer))(hf:env.frame=some L)(x:uY B (env::outer) e cls a0 .none d s.heap)
 (h:∀h',uY B (env::outer) e cls a0 (rawInt L) d h'->s.heap.UpToSlots h'->Q () {s with heap:=h'}):wpAny M A (noteFrame (.ref e) env) Q E s:=by
 obtain⟨o,vs,T,oT,ts,he,Hk,⟨hc,h0⟩,hv,h1,nT,Te,hT,JO,h3⟩:=x.tr;unfold noteFrame;simp only[hf];refine wpAny_bind (wpAny_field he hv h1 ?_);rw[if_pos (by simp)];refine wpAny_bind (wpAny_field hT JO h3 ?_);rw[if_neg (by simp[rawInt])];refine wpAny_bind (wpAny_setField hT JO (Array.getElem?_eq_some_iff.mp h3).1 ?_);have ot:∀b,b≠T->(s.heap.update T (Obj.mapFields (·.setIfInBounds 3 Value.none))).get? b=s.heap.get? b:=λb hb=>Heap.get?_update_other _ _ (Ne.symm hb)
 have nr:∀b ob,s.heap.get? b=some ob->(∀ws,ob.data≠.fields ws)->b≠T:=λb ob q hn z=>by rw[z,hT] at q;cases q;exact hn ts JO
 refine sC (s:={s with heap:=s.heap.update T (Obj.mapFields (·.setIfInBounds 3 Value.none))}) HS (x.fr.of_keeps λb ob q hn=>⟨ob,(ot b (nr b ob q hn)).trans q,rfl⟩) hf (λb ob q=>(ot b λz=>by rw[z,nT] at q;cases q).trans (x.st b ob q)) x.new
  ((ot e (Ne.symm Te)).trans he) Hk hc hv (Array.getElem?_eq_some_iff.mp h1).1 h0 λh' y up=>h h' y λb ob q hn=>up b ob ((ot b (nr b ob q hn)).trans q) hn
theorem vO (HS:A.frames=some (env::outer))(fr:s.heap.FunFrames B (env::outer))(hf:env.frame=some L)(st:B.StaysIn s.heap)(new:B.get? e=none)
 (he:s.heap.get? e=some o)(Hk:o.dict=d)(hc:o.cls=cls)(hv:o.data=.fields vs)(h1:vs[1]?=some .none)(h0:vs[0]?=some a0)
 (h:∀h',uY B (env::outer) e cls a0 (rawInt L) d h'->s.heap.UpToSlots h'->Q () {s with heap:=h'}):wpAny M A (noteFrame (.ref e) env) Q E s:=by
 unfold noteFrame;simp only[hf];refine wpAny_bind (wpAny_field he hv h1 ?_);rw[if_neg (by decide)];exact sC HS fr hf st new he Hk hc hv (Array.getElem?_eq_some_iff.mp h1).1 h0 h
theorem ie (x:uY B l e cls a0 fl d s.heap)(h:∀h',uY B l e cls a0 .none d h'->s.heap.UpToSlots h'->Q () {s with heap:=h'}):wpAny M A (setFlight (.ref e) none) Q E s:=by
 obtain⟨o,vs,T,oT,ts,he,Hk,hc,hv,h1,nT,Te,hT,JO,h3⟩:=x.tr;have z3:3<ts.size:=(Array.getElem?_eq_some_iff.mp h3).1;have ot:∀b,b≠T->(s.heap.update T (Obj.mapFields (·.setIfInBounds 3 Value.none))).get? b=s.heap.get? b:=λb hb=>Heap.get?_update_other _ _ (Ne.symm hb)
 have nr:∀b ob,s.heap.get? b=some ob->(∀ws,ob.data≠.fields ws)->b≠T:=λb ob q hn z=>by rw[z,hT] at q;cases q;exact hn ts JO
 unfold setFlight;refine wpAny_bind (wpAny_field he hv h1 ?_);rw[if_pos (by simp)];refine wpAny_setField hT JO z3 (h _ ⟨λb ob q=>(ot b λz=>by rw[z,nT] at q;cases q).trans (x.st b ob q),x.new,x.fr.of_keeps λb ob q hn=>⟨ob,(ot b (nr b ob q hn)).trans q,rfl⟩,?_⟩ λb ob q hn=>⟨ob.slots,(ot b (nr b ob q hn)).trans q⟩);exact⟨o,vs,T,_,_,(ot e (Ne.symm Te)).trans he,Hk,hc,hv,h1,nT,Te,Heap.get?_update_self _ hT (Obj.isFreed_of_fields (Obj.data_mapFields JO _)),Obj.data_mapFields JO _,by simp[z3]⟩
theorem uY.out (x:uY B (env::outer) e cls a0 fl d h):uY B outer e cls a0 fl d h:=⟨x.st,x.new,x.fr.2.2,x.tr⟩
theorem tO (HS:A.frames=some (env::outer))(hf:env.frame=some L)(x:uY B (env::outer) e cls a0 .none d s.heap)
 (h:∀h',uY B outer e cls a0 .none d h'->s.heap.UpToSlots h'->Q () {s with heap:=h'}):wpAny M A (leaving env (.ref e)) Q E s:=by
 unfold leaving;exact wpAny_bind (xN HS hf x λg y up=>ie (s:={s with heap:=g}) y λg2 y2 Ql=>h g2 y2.out (up.trans Ql))
theorem lU (HS:A.frames=some (env::outer))(fr:s.heap.FunFrames B (env::outer))(hf:env.frame=some L)(st:B.StaysIn s.heap)(new:B.get? e=none)
 (he:s.heap.get? e=some o)(Hk:o.dict=d)(hc:o.cls=cls)(hv:o.data=.fields vs)(h1:vs[1]?=some .none)(h0:vs[0]?=some a0)
 (h:∀h',uY B outer e cls a0 .none d h'->s.heap.UpToSlots h'->Q () {s with heap:=h'}):wpAny M A (leaving env (.ref e)) Q E s:=by
 unfold leaving;exact wpAny_bind (vO HS fr hf st new he Hk hc hv h1 h0 λg y up=>ie (s:={s with heap:=g}) y λg2 y2 Ql=>h g2 y2.out (up.trans Ql))
end
theorem ba.there {o:HO}(x:ba P w H h a o):∃ob,h.get? a=some ob:=by
 cases o with
 |lst xs=>obtain⟨_,_,_,_,e⟩:=x;exact⟨_,e⟩
 |tup xs=>obtain⟨_,_,_,ob,e,_⟩:=x;exact⟨_,e⟩
 |dK FF=>obtain⟨_,_,_,_,o,_,_,e,_⟩:=x;exact⟨_,e⟩
 |dT FF=>obtain⟨_,_,_,_,o,_,_,e,_⟩:=x;exact⟨_,e⟩
 |set S n=>obtain⟨o,_,_,_,e,_⟩:=x;exact⟨_,e⟩
 |ins C dx fs=>obtain⟨_,_,_,e,_⟩:=x;exact⟨_,e⟩
 |own y=>obtain⟨_,e⟩:=x;exact⟨_,e⟩
 |xd fs=>obtain⟨_,⟨_,_,_,e,_⟩,_⟩:=x;exact⟨_,e⟩
 |rng lo hi=>obtain⟨_,_,_,e⟩:=x;exact⟨_,e⟩
 |frz ob u=>obtain⟨e,_⟩:=x;exact⟨_,e⟩
 |tbl ps=>exact⟨_,(show h.get? a=some _ from x)⟩
 |met f y=>exact⟨_,(show h.get? a=some _ from x)⟩
 |ext φ=>obtain⟨_,⟨_,e⟩,_⟩:=x;exact⟨_,e⟩
structure Ef (P:vQ)(w:World)(l:List Env)(H₀:Hp)(h₀:Heap)(a:Addr)(cls:Value)(H:Hp)(h:Heap)(B:Heap)(a0:Value)(d:CC):Prop where
 fly:uY B l a cls a0 .none d h
 un:Un (cW l) [] H₀ H h₀ h
 keep:∀b o,h₀.get? b=some o->H₀ b=none->b∉cW l->B.get? b=some o
 there:∀b o,h₀.get? b=some o->b∉cW l->∃o',B.get? b=some o'
 hok:dM P w H B
 new:H a=none
noncomputable def aS (P:vQ)(w:World):AP:=λouter H₀ s₀ E e s'=>∃(a:Addr)(cls a0:Value)(B:Heap)(d:CC)(H:Hp),e=.ref a/\s'.os=s₀.os/\AllBare s'.gens/\Ef P w outer H₀ s₀.heap a cls H s'.heap B a0 d/\E cls d H
variable {Hx:Heap}{cls:Value}{d:CC}
section
variable {X:Cx}{pins:List (Addr×Obj)}{σ:St}{H H':Hp}{s s':Fp}{P:vQ}{w:World}
theorem bJ {base:Heap}(F:h.FunFrames base l)(hb:b∈cW l)(e:h.get? b=some o):∀vs,o.data≠.fields vs:=by
 obtain⟨_,o',e',d⟩:=F.mem hb;rw[e] at e'
 cases e'
 exact d
theorem rH {outer:List Env}{h' B:Heap}{e t:Addr}{args:qw}(I:Inv X pins σ H s)(hex:X.ex=[])(HI:X.stack=X.env::X.outer)(hm:Heap.MadeExcOf s.heap h' e cls args)
 (hB:B=PySem.W.hideAll s.heap (cW X.stack))(hf:uY B X.outer e cls (.ref t) .none d Hx)(KR:h'.UpToSlots Hx):Ef X.prog X.w X.outer X.H₀ X.s₀.heap e cls H Hx B (.ref t) d:=by
 subst hB;have st:=hf.st;have Ih:∀b o,s.heap.get? b=some o->b∉cW X.stack->(PySem.W.hideAll s.heap (cW X.stack)).get? b=some o:=λb o e n=>PySem.W.hideAll_get _ e n
 have old:∀b o,X.s₀.heap.get? b=some o->b∉cW X.outer->b∉cW X.stack:=λb o e n z=>by
  rcases List.mem_cons.mp (I.aaE b z) with q|q
  ·exact absurd (Nat.lt_of_lt_of_le (Heap.lt_size e) I.ok.above) (by rw[q];exact Nat.lt_irrefl _)
  ·exact n q
 have base:Un (cW X.outer) [] X.H₀ H X.s₀.heap s.heap:=by
  have z:=I.base;rw[hex] at z;exact z
 refine⟨hf,⟨λb o e n hb _=>st b o (Ih b o (base.keep b o e n hb (by simp)) (old b o e hb)),λb o e n hb _=>?_,base.free,λb o e _=>?_,base.aaC,base.aaB,base.aaI⟩,λb o e n hb=>Ih b o (base.keep b o e n hb (by simp)) (old b o e hb),λb o e hb=>?_,λb u e=>?_,?_⟩
 ·obtain⟨sl,e1⟩:=base.slot b o e n hb (by simp);obtain⟨Hv,e2⟩:=KR b _ (hm.keeps b _ e1) (bJ I.aaF hb e1);exact⟨Hv,e2⟩
 ·obtain⟨o',e1⟩:=base.there b o e (by simp)
  by_cases hb:b∈cW X.outer
  ·obtain⟨Hv,e2⟩:=KR b _ (hm.keeps b _ e1) (bJ I.aaF hb e1);exact⟨_,e2⟩
  ·exact⟨o',st b o' (Ih b o' e1 (old b o e hb))⟩
 ·obtain⟨o',e1⟩:=base.there b o e (by simp);exact⟨o',Ih b o' e1 (old b o e hb)⟩
 ·exact(I.hok b u e).aaY (λc v hc q=>Ih c v q λz=>by
   have n:=I.aaP c z
   rcases hc with hc|hc
   ·rw[hc,e] at n;cases n
   ·rw[n] at hc;cases hc) (λ_ q=>q) λ_ _ q=>q
 ·cases q:H e with
  |none=>rfl
  |some u =>
   obtain⟨ob,e1⟩:=(I.hok e u q).there;rw[hm.new] at e1
   cases e1
theorem p8 {B:Heap}{a0:Value}(I:Inv X pins σ H s)(hex:X.ex=[])(F:Ef X.prog X.w X.stack H s.heap a cls H' s'.heap B a0 d)
 (hf:uY B X.outer a cls a0 .none d Hx)(KR:s'.heap.UpToSlots Hx):Ef X.prog X.w X.outer X.H₀ X.s₀.heap a cls H' Hx B a0 d:=by
 have st:=hf.st
 have sub:∀b,b∈cW X.outer->b∈cW X.stack:=λb hb=>by
  rcases I.ok.stk with z|⟨z,HS⟩
  ·rw[z];exact hb
  ·rw[z];unfold cW;rw[List.filterMap_cons,HS];exact List.mem_cons_of_mem _ hb
 have old:∀b o,X.s₀.heap.get? b=some o->b∉cW X.outer->b∉cW X.stack:=λb o e n z=>by
  rcases List.mem_cons.mp (I.aaE b z) with q|q
  ·exact absurd (Nat.lt_of_lt_of_le (Heap.lt_size e) I.ok.above) (by rw[q];exact Nat.lt_irrefl _)
  ·exact n q
 have base:Un (cW X.outer) [] X.H₀ H X.s₀.heap s.heap:=by
  have z:=I.base;rw[hex] at z;exact z
 have kB:∀b o,X.s₀.heap.get? b=some o->X.H₀ b=none->b∉cW X.outer->B.get? b=some o:=λb o e n hb =>
  F.keep b o (base.keep b o e n hb (by simp)) (base.free b o e n (by simp)) (old b o e hb)
 have tB:∀b o,X.s₀.heap.get? b=some o->b∉cW X.outer->∃o',B.get? b=some o':=λb o e hb=>by
  obtain⟨o',e1⟩:=base.there b o e (by simp);exact F.there b o' e1 (old b o e hb)
 have Ir:∀b o,s.heap.get? b=some o->H b=none->b∈cW X.outer->∃sl,Hx.get? b=some {o with slots:=sl}:=λb o e n hb=>by
  obtain⟨sl,e1⟩:=F.un.slot b o e n (sub b hb) (by simp);obtain⟨Hv,e2⟩:=KR b _ e1 (λvs q=>bJ I.aaF hb e vs q);exact⟨Hv,e2⟩
 refine⟨hf,⟨λb o e n hb _=>st b o (kB b o e n hb),λb o e n hb _=>?_,λb o e n _=>?_,λb o e _=>?_,λb xs e=>F.un.aaC b xs (base.aaC b xs e),λb o xs e=>F.un.aaB b o xs (base.aaB b o xs e),λb ps e=>?_⟩,kB,tB,F.hok,F.new⟩
 ·obtain⟨sl,e1⟩:=base.slot b o e n hb (by simp);obtain⟨Hv,e2⟩:=Ir b _ e1 (base.free b o e n (by simp)) hb;exact⟨Hv,e2⟩
 ·obtain⟨o',e1⟩:=base.there b o e (by simp);exact F.un.free b o' e1 (base.free b o e n (by simp)) (by simp)
 ·by_cases hb:b∈cW X.outer
  ·obtain⟨o',e1⟩:=base.there b o e (by simp);have n:H b=none:=I.aaP b (sub b hb);obtain⟨sl,e2⟩:=Ir b o' e1 n hb;exact⟨_,e2⟩
  ·obtain⟨o',e1⟩:=tB b o e hb;exact⟨o',st b o' e1⟩
 ·obtain⟨m1,e1⟩:=base.aaI b ps e;obtain⟨m2,e2⟩:=F.un.aaI b _ e1;exact⟨m1++m2,by rw[e2,Array.append_assoc]⟩
theorem jM {B:Heap}{a0:Value}{tk:Nat}(I:Inv X pins σ H s)(ho:s'.os=s.os)(hg:AllBare s'.gens)(F:Ef X.prog X.w X.stack H s.heap a cls H' s'.heap B a0 d)
 (hf:uY B X.stack a cls a0 fl d Hx)(KR:s'.heap.UpToSlots Hx):Inv X pins σ H' {s' with heap:=Hx,toks:=tk}:=by
 have st:=hf.st;refine I.abp (s':={s' with heap:=Hx,toks:=tk}) (ch:=[]) ho ⟨λb o e n hb _=>st b o (F.keep b o e n hb),λb o e n hb _=>?_,F.un.free,λb o e _=>?_,F.un.aaC,F.un.aaB,F.un.aaI⟩ (F.hok.kept st) hg λb z=>absurd z (by simp)
 ·obtain⟨sl,e1⟩:=F.un.slot b o e n hb (by simp);obtain⟨Hv,e2⟩:=KR b _ e1 (λvs q=>bJ I.stack hb e vs q);exact⟨Hv,e2⟩
 ·by_cases hb:b∈cW X.stack
  ·obtain⟨sl,e1⟩:=F.un.slot b o e (I.aaP b hb) hb (by simp);obtain⟨Hv,e2⟩:=KR b _ e1 (λvs q=>bJ I.stack hb e vs q);exact⟨_,e2⟩
  ·obtain⟨o',e1⟩:=F.there b o e hb;exact⟨o',st b o' e1⟩
end
theorem A3 {K:PySem.W.Frag}{cd:ClassData}(h:PySem.W.clsIn K C=some cd):∃c d s,K.lookup C=some ⟨c,d,.cls cd,s⟩:=by
 unfold PySem.W.clsIn at h
 cases ho:K.lookup C with
 |none=>rw[ho] at h;cases h
 |some o =>
  rw[ho] at h;obtain⟨c,d,x,s⟩:=o
  cases x <;> cases h
  exact⟨_,_,_,rfl⟩
theorem Ea {α:Type}{l:List α}(h:l.length=6):∃a b c d e f,l=[a,b,c,d,e,f]:=by
 obtain⟨a,l,rfl⟩:=List.exists_cons_of_length_eq_add_one h;obtain⟨b,l,rfl⟩:=List.exists_cons_of_length_eq_add_one (Nat.succ.inj h);obtain⟨c,l,rfl⟩:=List.exists_cons_of_length_eq_add_one (Nat.succ.inj (Nat.succ.inj h));obtain⟨d,l,rfl⟩:=List.exists_cons_of_length_eq_add_one (Nat.succ.inj (Nat.succ.inj (Nat.succ.inj h)));obtain⟨e,l,rfl⟩:=List.exists_cons_of_length_eq_add_one (Nat.succ.inj (Nat.succ.inj (Nat.succ.inj (Nat.succ.inj h))));obtain⟨f,rfl⟩:=List.length_eq_one_iff.mp (Nat.succ.inj (Nat.succ.inj (Nat.succ.inj (Nat.succ.inj (Nat.succ.inj h)))));exact⟨a,b,c,d,e,f,rfl⟩
theorem y8 {K:PySem.W.Frag}{F6:qw}{newId:String}(X:K.In h)(q:nA K C F6 newId=true):
 ∃bm N nm qn bs hd sn sub ab col dd k0 k1 k2 k3 k5 mN,h.get? C=some (excClassObj nm qn C N bs bm hd sn sub ab col dd k0 k1 k2 k3 k5 newId)/\h.Ns N mN/\mN "__init__"=none/\OwnTail h F6 bm:=by
 have q1:=Bool.and_eq_true_iff.mp q;obtain⟨cd,hc,q2⟩:=(Option.any_eq_true _ _).mp q1.2;obtain⟨c,dd,sl,ho⟩:=A3 hc;have q3:=Bool.and_eq_true_iff.mp q2;have q4:=Bool.and_eq_true_iff.mp q3.2;have q5:=Bool.and_eq_true_iff.mp q4.2;have q6:=Bool.and_eq_true_iff.mp q5.2
 have e1:(c == .type "type"&&(sl.size==6&&sl.toList[4]?==some (some (.builtin newId))))=true:=by
  have z:=q1.1;rw[ho] at z;exact z
 have e2:=Bool.and_eq_true_iff.mp e1;have e3:=Bool.and_eq_true_iff.mp e2.2;obtain⟨k0,k1,k2,k3,k4,k5,e⟩:=Ea (l:=sl.toList) (eq_of_beq e3.1)
 have e4:k4=some (.builtin newId):=by
  have z:=eq_of_beq e3.2;rw[e] at z;exact Option.some.inj z
 have e5:sl = #[k0,k1,k2,k3,some (.builtin newId),k5]:=Array.toList_inj.mp (by rw[e,e4])
 have e6:cd.mro=.ref C::cd.mro.tail:=by
  obtain⟨r,z⟩:=List.head?_eq_some_iff.mp (eq_of_beq q3.1);rw[z];rfl
 have e7:cd.hasDel=false:=by simpa using q4.1
 refine⟨cd.mro.tail,cd.ns,cd.name,cd.qualname,cd.bases,cd.hasDict,cd.slotNames,cd.subclasses,cd.abstract,cd.collection,dd,k0,k1,k2,k3,k5,_,(X _ _ ho).trans ?_,.of_isNs (PySem.W.isNs_of_in X q6.1),PySem.W.nsMap_none_of_in X q6.1 (eq_of_beq q6.2),PySem.W.tail_of_in X q5.1⟩;rw[e5,eq_of_beq e2.1];show some (Obj.mk _ _ (.cls cd) _)=some (Obj.mk _ _ (.cls ⟨_,_,_,_,_,_,_,_,_,_,false⟩) _);rw[<-e6,<-e7]
noncomputable def xH (X:Cx)(E:St->XK):Prop:=∀(pins:List (Addr×Obj))(σ:St)(H:Hp)(s:Fp)(h':Heap)(e:Addr)(cls:Value)(args:qw),Inv X pins σ H s->Heap.MadeExcOf s.heap h' e cls args->E σ cls none H->X.xe (.ref e) {s with heap:=h'}
noncomputable def Cp (C:Addr)(E:St->XK)(t:TA):TS:=λ_ σ H=>t σ H λvs H1=>vs.length<=sizeLine/\E σ (.ref C) none H1
section
variable {X:Cx}{E:St->XK}{x:Str}{C:Addr}{B newId GZ:String}{F6:qw}{np FU pos:Pos}{e:Expr}{es:Bo}{t:TA}
theorem gf (FB:ExcBaseFacts B newId GZ F6)(q:nA X.K C F6 newId=true)(hc:X.calm=true)(hR:xH X E)(hg:Gl X x)(hm:X.mg x=some (.ref C))(ha:PA X (e::es) t)
 (he:starEach (e::es) X.env=(false,eval e X.env):: starEach es X.env:=by rfl)(Gw:(backTo FU (starEach es X.env)).any (·.1)=false:=by rfl)(hd:(x==("__debug__":Str))=false:=by decide):
 PS X (.Raise (some (.Call (.Name x np) (e::es) [] FU)) none pos) (Cp C E t):=by
 intro pins s σ H D I h;obtain⟨bm,N,nm,qn,bs,hdct,sn,sub,ab,col,dd,k0,k1,k2,k3,k5,mN,hC,hN,V4,T⟩:=y8 I.ok.mod.kin q
 refine wpAny_Raise_call_subT (C:=C) (nm:=nm) (q:=qn) (N:=N) (bs:=bs) (bm:=bm) (hdct:=hdct) (sn:=sn) (sub:=sub) (ab:=ab) (col:=col) (dd:=dd) (k0:=k0) (k1:=k1) (k2:=k2) (k3:=k3) (k5:=k5)
  FB (mN:=mN) (T.hasType FB.hasBase) (I.ok.hd hc) (by rw[he];show(false || (backTo FU (starEach es X.env)).any (·.1))=false;rw[Gw];rfl) V4 (dz I hg hm ⟨rfl,?_⟩ hd)
 have z:=ha FU pins s σ H _ I h;rw[he] at z |-;refine Calls.evalArgs_plain (wpAny_mono z (λus s₂ z'=>?_) λ_ _ y=>y);obtain⟨vs,H2,I2,rv,hl,hE⟩:=z';exact⟨rfl,by rw[<-rv.length];exact hl,I2.bk _ _ hC,hN.keeps I2.bk,T.keeps I2.bk,λh' e' Mp=>hR pins σ H2 s₂ h' e' _ _ I2 Mp hE⟩
end
section
variable {P:vQ}{w:World}{K:PySem.W.Frag}{mg:FA}{base:Heap}{N:wk}{qual:Str}{scope:Scope}{f:Addr}{cd:Value}{A:Around}{outer:List Env}{s:Fp}{H:Hp}{E:XK}
theorem dH:xH (dw (aS P w) P w K mg base N qual scope f cd A outer s H E) λ_=>E:=by
 intro pins σ H1 s1 h' e cls args I hm hE;have HI:(dw (aS P w) P w K mg base N qual scope f cd A outer s H E).stack=(dw (aS P w) P w K mg base N qual scope f cd A outer s H E).env::outer:=rfl;have hl:=I.stack;obtain⟨t,he,htn,ht⟩:=hm.there;have hB:∀b o,(PySem.W.hideAll s1.heap (cW (dw (aS P w) P w K mg base N qual scope f cd A outer s H E).stack)).get? b=some o->s1.heap.get? b=some o:=λb o q=>PySem.W.of_hideAll _ q
 have nB:(PySem.W.hideAll s1.heap (cW (dw (aS P w) P w K mg base N qual scope f cd A outer s H E).stack)).get? e=none:=by
  cases q:(PySem.W.hideAll s1.heap (cW (dw (aS P w) P w K mg base N qual scope f cd A outer s H E).stack)).get? e with
  |none=>rfl
  |some o=>have z:=hB _ _ q;rw[hm.new] at z;cases z
 have Qm:=PySem.W.funFrames_hide hl λenv he a ha=>List.mem_filterMap.mpr ⟨env,he,ha⟩
 refine lU (B:=PySem.W.hideAll s1.heap (cW (dw (aS P w) P w K mg base N qual scope f cd A outer s H E).stack)) (s:={s1 with heap:=h'}) (d:=none) (cls:=cls) (a0:=.ref t) I.ok.frames (Qm.of_keeps λb o q _=>⟨o,hm.keeps b o q,rfl⟩) rfl
  (λb o q=>hm.keeps b o (hB b o q)) nB he rfl rfl rfl rfl rfl λHx x1 x4=>?_
 exact⟨e,cls,.ref t,_,none,H1,rfl,I.os,I.bare,rH (outer:=outer) I rfl rfl hm rfl x1 x4,hE⟩
theorem lh:d3 (aS P w) (dw (aS P w) P w K mg base N qual scope f cd A outer s H E) E:=by
 intro pins σ H1 s1 e s' I hx;obtain⟨a,cls,a0,B,d,H',rfl,ho,hg,F,hE⟩:=hx;refine tO (L:=s.heap.objs.size) I.ok.frames rfl F.fly λHx x1 x2=>?_;exact⟨a,cls,a0,B,d,H',rfl,ho.trans I.os,hg,p8 I rfl F x1 x2,hE⟩
end
theorem ag {X:Cx}:d3 (aS P w) X λ_ _ _=>False:=by
 intro pins σ H1 s1 e s' I hx;obtain⟨a,cls,a0,B,d,H',_,_,_,_,hE⟩:=hx;exact hE.elim
noncomputable def qR (a:Addr)(cls:Value):HO:=.ext λh=>∃o vs,h.get? a=some o/\o.cls=cls/\o.data=.fields vs
theorem zF (e:h.get? a=some o)(hc:o.cls=cls)(hd:o.data=.fields vs):ba P w H h a (qR a cls):=
 ⟨⟨o,vs,e,hc,hd⟩,⟨o,e⟩,λh1 h2 ⟨o,vs,e,hc,hd⟩ k=>⟨o,vs,k o e,hc,hd⟩⟩
theorem As (k:dM P w H h)(e:H a=some (qR a cls)):∃o vs,h.get? a=some o/\o.cls=cls/\o.data=.fields vs:=(k a _ e).1
noncomputable def dE (vs:Cm):Prop:=∃t:Addr,vs = #[.ref t,.none,.none,.none,.bool false,.none]
noncomputable def eU (a:Addr)(cls:Value)(dx:Addr)(fr:Bool):HO:=.ext λh=>∃o vs,h.get? a=some o/\o.cls=cls/\o.data=.fields vs/\o.dict=some dx/\(fr=true->dE vs)
noncomputable def u3 (a:Addr)(cls:Value):Option Addr->HO
 |none=>qR a cls
 |some dx=>eU a cls dx false
theorem zN (e:h.get? a=some o)(hc:o.cls=cls)(hd:o.data=.fields vs)(hx:o.dict=d):ba P w H h a (u3 a cls d):=by
 cases d with
 |none=>exact zF e hc hd
 |some dx=>exact⟨⟨o,vs,e,hc,hd,hx,λz=>by cases z⟩,⟨o,e⟩,λh1 h2 ⟨o,vs,e,hc,hd,hx,z⟩ k=>⟨o,vs,k o e,hc,hd,hx,z⟩⟩
theorem uY.first {B:Heap}{e:Addr}{a0:Value}(x:uY B l e cls a0 fl d h):∃oe vs,h.get? e=some oe/\oe.cls=cls/\oe.data=.fields vs/\oe.dict=d :=
 let⟨o,vs,_,_,_,h1,h2,h3,h4,_⟩:=x.tr;⟨o,vs,h1,h3.1,h4,h2⟩
noncomputable def DH (X:Cx)(pins:List (Addr×Obj))(E:St->XK):Value->Shared->Prop:=λe s'=>∃σ H s,Inv X pins σ H s/\aS X.prog X.w X.stack H s (E σ) e s'
noncomputable abbrev Cx.tr (X:Cx)(pins:List (Addr×Obj))(E:St->XK):Cx:={X with pn:=X.pn++pins,xe:=DH X pins E}
noncomputable abbrev Cx.hd (X:Cx)(a:Addr):Cx:={X with A:=X.A.mark (some (.ref a)),calm:=false,xe:=λ_ _=>False}
section
variable {X:Cx}{pins pins':List (Addr×Obj)}{σ:St}{H:Hp}{s:Fp}{E:St->XK}{a:Addr}
theorem CH (I:Inv X pins σ H s):Inv (X.tr pins E) [] σ H s :=
 ⟨⟨I.ok.mod,I.ok.kind,I.ok.glob,I.ok.blt,I.ok.above,I.ok.inj,I.ok.has,I.ok.cab,I.ok.hd,I.ok.frames,I.ok.stk,I.ok.exf,I.ok.bs,I.ok.bsz,I.ok.abo,I.ok.abx,I.ok.aaF,I.ok.frf⟩,I.os,I.bare,I.base,I.loc,I.cell,I.free,I.aaz,λp hp=>I.pin p (by
   have z:p∈(X.pn++pins)++[]:=hp;rw[List.append_nil] at z
   exact z),I.hok,I.len⟩
theorem fN (I:Inv (X.tr pins E) pins' σ H s):Inv X pins σ H s :=
 ⟨⟨I.ok.mod,I.ok.kind,I.ok.glob,I.ok.blt,I.ok.above,I.ok.inj,I.ok.has,I.ok.cab,I.ok.hd,I.ok.frames,I.ok.stk,I.ok.exf,I.ok.bs,I.ok.bsz,I.ok.abo,I.ok.abx,I.ok.aaF,I.ok.frf⟩,I.os,I.bare,I.base,I.loc,I.cell,I.free,I.aaz,λp hp=>I.pin p (List.mem_append_left _ hp),I.hok,I.len⟩
theorem yJ (I:Inv X pins σ H s):Inv (X.hd a) pins σ H s :=
 ⟨⟨I.ok.mod,I.ok.kind,I.ok.glob,I.ok.blt,I.ok.above,I.ok.inj,I.ok.has,I.ok.cab,(λz=>absurd (show false=true from z) (by decide)),I.ok.frames,I.ok.stk,I.ok.exf,I.ok.bs,I.ok.bsz,I.ok.abo,I.ok.abx,I.ok.aaF,I.ok.frf⟩,I.os,I.bare,I.base,I.loc,I.cell,I.free,I.aaz,I.pin,I.hok,I.len⟩
theorem ip (ok:X.Ok)(I:Inv (X.hd a) pins σ H s):Inv X pins σ H s :=
 ⟨ok,I.os,I.bare,I.base,I.loc,I.cell,I.free,I.aaz,I.pin,I.hok,I.len⟩
theorem ju {D:Ends}{f:Flow}{s':Fp}(h:SP (X.tr pins E) [] D f s'):SP X pins D f s':=by
 cases f with
 |next=>obtain⟨σ',H',I,q⟩:=h;exact⟨σ',H',fN I,q⟩
 |brk=>obtain⟨σ',H',I,q⟩:=h;exact⟨σ',H',fN I,q⟩
 |cont=>obtain⟨σ',H',I,q⟩:=h;exact⟨σ',H',fN I,q⟩
 |ret u=>obtain⟨v,σ',H',I,r,q⟩:=h;exact⟨v,σ',H',fN I,r,q⟩
theorem kH:∀(pins':List (Addr×Obj))(σ:St)(H:Hp)(s:Fp)(e:Value)(s':Fp),Inv (X.tr pins E) pins' σ H s->aS X.prog X.w X.stack H s (E σ) e s'->(X.tr pins E).xe e s':=λpins' σ H s e s' I hx=>⟨σ,H,s,fN I,hx⟩
noncomputable def Ed (K:PySem.W.Frag)(c:Value)(i:Nat)(ts:TS)(D:Ends):St->XK:=λσ cls d H'=>PySem.W.exmOne K cls c=some true/\∀a,H' a=none →
 ts {nx:=λσ' H2=>D.nx (σ'.set i none) H2,rt:=D.rt,bk:=λσ' H2=>D.bk (σ'.set i none) H2,ct:=λσ' H2=>D.ct (σ'.set i none) H2} (σ.set i (some (.ref a))) (upd H' a (u3 a cls d))
noncomputable def EE (K:PySem.W.Frag)(c:Value)(i:Nat)(tb:(St->XK)->TS)(ts:TS):TS:=λD σ H=>tb (Ed K c i ts D) D σ H
theorem gu {M:Model}{E':yg}{A:Around}{i:Nat}{n:Str}{Q:Unit->Shared->Prop}(I:Inv X pins σ H s)(hN:X.N.Nodup)(hi:X.N[i]?=some n)(hl:X.env.scope.names.lookup n=some .local)
 (h:∀s',Inv X pins (σ.set i none) H s'->Q () s'):wpAny M A (do bindName X.env n .none;unbindBehindTheSuite X.env n pos) Q E' s:=by
 obtain⟨m,hn,Qn⟩:=id I.loc;refine wpAny_nameGoes_keeps hl hn (by rw[I.ok.kind];rfl) λh' v PY hs=>h _ ?_;have nL:∀b o,X.s₀.heap.get? b=some o->b≠X.env.locals:=λb o e=>Nat.ne_of_lt (Nat.lt_of_lt_of_le (Heap.lt_size e) I.ok.above);refine⟨I.ok,I.os,I.bare,⟨λb o e n hb hx=>(hs.2 b (nL b o e)).trans (I.base.keep b o e n hb hx),λb o e n hb hx=>?_,I.base.free,λb o e hx=>?_,I.base.aaC,I.base.aaB,I.base.aaI⟩,⟨_,PY,λj y w' e1 e2 e3=>?_⟩,λy c e=>?_,I.free,I.aaz,λp hp=>?_,λb u e=>?_,by simpa using I.len⟩
 ·obtain⟨sl,e1⟩:=I.base.slot b o e n hb hx;exact⟨sl,(hs.2 b (nL b o e)).trans e1⟩
 ·obtain⟨o',e1⟩:=I.base.there b o e hx;exact⟨o',(hs.2 b (nL b o e)).trans e1⟩
 ·have hj:j≠i:=λz=>by
   subst z
   by_cases FO:j<σ.length
   ·rw[List.getElem?_set_self FO] at e2;cases e2
   ·rw[List.getElem?_eq_none (by simpa using FO)] at e2;cases e2
  rw[List.getElem?_set_ne (Ne.symm hj)] at e2;obtain⟨u,r,q⟩:=Qn j y w' e1 e2 e3;refine⟨u,r,?_⟩
  rcases q with⟨k,e⟩|⟨k,c,e,z⟩
  ·refine .inl ⟨k,?_⟩;have V5:y≠n:=λe=>hj (jD hN e1 (e▸hi));show(if y=n then v else m y)=some u;rw[if_neg V5];exact e
  ·exact .inr ⟨k,c,e,z.sameBut hs (I.cne y c e)⟩
 ·obtain⟨w',z⟩:=I.cell y c e;exact⟨w',z.sameBut hs (I.cne y c e)⟩
 ·obtain⟨e,n',ne,nf,d⟩:=I.pin p hp;exact⟨(hs.2 p.1 ne).trans e,n',ne,nf,d⟩
 ·refine(I.hok b u e).aaY (λc w' hc q=>(hs.2 c ?_).trans q) (λ_ q=>q) λ_ _ q=>q;rintro rfl
  rcases hc with rfl|hc
  ·rw[I.free] at e;cases e
  ·rw[I.free] at hc;cases hc
theorem vR {n:Str}{i:Nat}{np Jr:Pos}{body JP:rY}{b₀:Stmt}{tb:(St->XK)->TS}{ts:TS}(HI:X.stack=X.env::X.outer)(HS:X.env.frame=some X.env.locals)(hN:X.N.Nodup)(hi:X.N[i]?=some n)
 (hl:X.env.scope.names.lookup n=some .local)(hg:Gl X x)(hm:X.mg x=some (.ref C))(hb:∀pins E,iE (X.tr pins E) body (tb E))(hs:∀a,iE (X.hd a) (b₀::JP) ts)(hd:(x==("__debug__":Str))=false:=by decide):
 PS X (.Try body [.ExceptHandler (some (.Name x np)) (some n) (b₀::JP) Jr] [] [] pos) (EE X.K (.ref C) i tb ts):=by
 intro pins s σ H D I h;refine wpAny_Try_except (wpAny_mono (hb pins _ [] s σ H D (CH I) h) (λf s1 q=>?_) λe s1 q=>?_)
 ·cases f with
  |next=>exact wpAny_execs_nil (ju q)
  |ret v=>exact ju q
  |brk=>exact ju q
  |cont=>exact ju q
 ·obtain⟨σ1,H1,s0,I1,a,cls,a0,B,d,H2,rfl,ho,TN,F,hx,hw⟩:=q
  have V6:X.A.frames=some (X.env::X.outer):=by rw[I.ok.frames,HI]
  have fl:=F.fly;rw[HI] at fl;refine xN V6 HS fl λh4 held TQ=>ie (s:={s1 with heap:=h4}) held λh5 Qo TR=>?_
  have Qp:uY B X.stack a cls a0 .none d h5:=by rw[HI];exact Qo
  have I5:Inv X pins σ1 H2 {s1 with heap:=h5}:=jM (tk:=s1.toks) I1 ho TN F Qp (TQ.trans TR);obtain⟨ob,_,Mq,Qq,_,_⟩:=Qo.first;have V7:Inv (X.hd a) pins σ1 H2 {s1 with heap:=h5}:=yJ I5;refine wpAny_handleBy_cons (codeAny_handlers_test (dz V7 hg hm ?_ hd)) (by intro q;cases q);have LT:PySem.W.Looks (model X.prog X.w) h5 (typeOf (.ref a)) cls:=Qq▸(PySem.W.Looks.ld Mq).andThen .now;refine(PySem.W.exm_one (M:=model X.prog X.w) I5.kIn LT hx) _ _ _ _ (λ_ _ e=>e) ?_;refine codeAny_handlers_suite_as ?_;refine ie (s:={s1 with heap:=h5}) Qo λh6 TU V8=>?_
  have Js:uY B X.stack a cls a0 .none d h6:=by rw[HI];exact TU
  have I6:Inv X pins σ1 H2 {s1 with heap:=h6}:=jM (tk:=s1.toks) I1 ho TN F Js ((TQ.trans TR).trans V8);obtain⟨oe,vs,Ii,Qr,Jt,Qs⟩:=TU.first
  have I7:Inv X pins σ1 (upd H2 a (u3 a cls d)) {s1 with heap:=h6}:=by
   have nB:X.s₀.heap.get? a=none\/True:=.inr trivial;refine⟨I6.ok,I6.os,I6.bare,?_,I6.loc,I6.cell,?_,?_,?_,c6 I6.hok F.new (zN Ii Qr Jt Qs),I6.len⟩
   ·refine⟨I6.base.keep,I6.base.slot,λb o e n KD=>?_,I6.base.there,λb xs e=>?_,λb o u e=>?_,λb ps e=>?_⟩
    ·have FX:b≠a:=λz=>by
      subst z;have e1:=I1.base.there b o e KD;obtain⟨o1,e1⟩:=e1
      by_cases O0:b∈cW X.stack
      ·have:=(Js.fr.mem O0);obtain⟨_,o2,e2,d2⟩:=this;rw[Ii] at e2
       cases e2
       exact d2 vs Jt
      ·obtain⟨o2,e2⟩:=F.there b o1 e1 O0;rw[Js.new] at e2
       cases e2
     rw[ai FX];exact I6.base.free b o e n KD
    ·rw[ai (av (I6.base.aaC b xs e) F.new)];exact I6.base.aaC b xs e
    ·rw[ai (av (I6.base.aaB b o u e) F.new)];exact I6.base.aaB b o u e
    ·obtain⟨m,q⟩:=I6.base.aaI b ps e;exact⟨m,by rw[ai (av q F.new)];exact q⟩
   ·have FX:X.env.locals≠a:=λz=>by
     obtain⟨m,⟨o,es,ep,e,d,_⟩,_⟩:=I6.loc;rw[z,Ii] at e
     cases e
     rw[Jt] at d
     cases d
    rw[ai FX];exact I6.free
   ·intro y c e
    have FX:c≠a:=λz=>by
     obtain⟨v,o,e1,d⟩:=I6.cell y c e;rw[z,Ii] at e1
     cases e1
     rw[Jt] at d
     cases d
    rw[ai FX];exact I6.aaz y c e
   ·intro p hp;obtain⟨e,n',ne,nf,d⟩:=I6.pin p hp;refine⟨e,?_,ne,nf,d⟩
    have FX:p.1≠a:=λz=>by
     obtain⟨e1,n1,_,nf1,_⟩:=I1.pin p hp
     have O1:p.1∉cW X.stack:=λq=>by
      rcases List.mem_cons.mp (I1.aaE _ q) with w|w
      ·exact ne w
      ·exact nf w
     obtain⟨o2,e2⟩:=F.there p.1 _ e1 O1;rw[z,Js.new] at e2
     cases e2
    rw[ai FX];exact n'
  refine fJ (M:=model X.prog X.w) I7 hN hi (.inl hl) (show aC (.ref a) (.ref a) from rfl) (λs8 I8=>?_) (.inr hl);refine wpAny_mono (hs a pins s8 _ _ _ (yJ I8) (hw a F.new)) (λf s9 q=>?_) λ_ _ z=>False.elim z
  cases f with
  |next =>
   obtain⟨σ9,H9,I9,q9⟩:=q;exact gu (ip I.ok I9) hN hi hl λMr Ju=>⟨_,_,Ju,q9⟩
  |brk =>
   obtain⟨σ9,H9,I9,q9⟩:=q;exact gu (ip I.ok I9) hN hi hl λMr Ju=>⟨_,_,Ju,q9⟩
  |cont =>
   obtain⟨σ9,H9,I9,q9⟩:=q;exact gu (ip I.ok I9) hN hi hl λMr Ju=>⟨_,_,Ju,q9⟩
  |ret u =>
   obtain⟨v,σ9,H9,I9,r9,q9⟩:=q;exact gu (ip I.ok I9) hN hi hl λMr Ju=>⟨v,_,_,Ju,r9,q9⟩
end
structure p3 (K:Frag)(C:Addr):Prop where
 cls:(clsIn K C).isSome=true
 ga:findIn K (.ref C) "__getattribute__"=some (some (.builtin "BaseException.__getattribute__"))
 gx:findIn K (.ref C) "__getattr__"=some none
 ca:findIn K (.ref C) "__class__"=some (some (.builtin "object.__class__"))
 ob:mroIn K C (.type "object")=some true
 be:mroIn K C (.type "BaseException")=some true
section
variable {prog:vQ}{w:World}{A:Around}{E:yg}{K:Frag}{x C:Addr}{ox:Obj}
theorem m3 {M:Model}{JQ:Value}{Q:Unit->Shared->Prop}(X:K.In s.heap)(k:p3 K C)(e:s.heap.get? x=some ox)(hc:ox.cls=.ref C)(hq:Q () s):
 wpAny M A (checkBuiltinCall "BaseException.__getattribute__" ⟨[.ref x,JQ],[]⟩) Q E s:=by
 obtain⟨hh,g,d,t,os⟩:=s;have L0:Looks M hh (typeOf (.ref x)) (.ref C):=hc▸(Looks.ld e).andThen .now;have L5:=looks_mroIn (M:=M) X k.be
 have hk:builtinKind "BaseException.__getattribute__"=some .slot:=by decide +kernel
 have KS:splitId "BaseException.__getattribute__"=some ("BaseException","__getattribute__"):=by decide +kernel
 have ha:=F.args_bexc_ga (.ref x) JQ;simp only[checkBuiltinCall,hk,KS];unfold isInstance
 repeat (any_goals (first|assumption|lk|wp_step))
open Builtin Builtin.ObjectAttr Builtin.Getset_descriptor in
theorem lH {R:Result->Shared->Prop}{tp:Value}(X:K.In s.heap)(k:p3 K C)(e:s.heap.get? x=some ox)(hc:ox.cls=.ref C)(h:R (.ok (.ret (.ref C))) s):
 codeAny (model prog w) A (.call (.builtin "getset_descriptor.__get__") ⟨[.builtin "object.__class__",.ref x,tp],[]⟩) R s:=by
 obtain⟨hh,g,dr,t,os⟩:=s;have L0:Looks (model prog w) hh (typeOf (.ref x)) (.ref C):=hc▸(Looks.ld e).andThen .now;have L1:=looks_mroIn (M:=model prog w) X k.ob;refine codeAny_call_builtin KF.slot_gs.plain KF.entry_gs (KF.slot_gs.check _ _ _ _ _ _ _ _ KF.type_class (KF.args_gs _ _ _) ?_);unfold Builtin.«getset_descriptor.__get__» descrGet;rw[dga_obj];refine wpAny_bind (wpAny_pure ?_);unfold descrGetter descrCheckInstance descrNameAndClass isInstance;simp only[KF.owner_class]
 repeat lk
 refine⟨Code.quiet_builtin _ (by decide +kernel),codeAny_builtin KF.entry_class ?_⟩;unfold Builtin.«object.__class__» shownTypeOf
 repeat lk
 exact h
theorem jh {tk:Tok}{Q:PySem.Fin->Shared->Prop}(X:K.In s.heap)(k:p3 K C)(e:s.heap.get? x=some ox)(hc:ox.cls=.ref C)(hq:Q (.done (.ret (.ref C))) s):
 wpAny (model prog w) A (Builtin.«object.__getattribute__» ⟨[.ref x,.str "__class__" tk],[]⟩) Q E s:=by
 obtain⟨hh,g,d,t,os⟩:=s;have L0:Looks (model prog w) hh (typeOf (.ref x)) (.ref C):=hc▸(Looks.ld e).andThen .now;have L3:=looks_findIn (M:=model prog w) X k.ca;have f5:=F.typeOf_object_class;have f6:=F.slot_gs_get.lookup;have f7:=F.slot_gs_set.lookup
 repeat (any_goals (first|assumption|(with_reducible refine Looks.at (by assumption) ?_)|(with_reducible refine Looks.at L0 ?_)|wp_step))
 refine lH X k e hc ?_
 repeat (any_goals (first|assumption|wp_step))
theorem nX {tk:Tok}{fill expr:Bool}{Q:yg}{s:Fp}(X:K.In s.heap)(k:p3 K C)(e:s.heap.get? x=some ox)(hc:ox.cls=.ref C)(hq:Q (.ref C) s):
 wpAny (model prog w) A (getAttrBy (.ref x) (.str "__class__" tk) fill expr) Q E s:=by
 obtain⟨hh,g,d,t,os⟩:=s;have L0:Looks (model prog w) hh (typeOf (.ref x)) (.ref C):=hc▸(Looks.ld e).andThen .now;have L1:=looks_findIn (M:=model prog w) X k.ga;have L2:=looks_findIn (M:=model prog w) X k.gx;have f3:=F.attr_ValueError.ga.bind (.ref x)
 have V9:(expr&&onTheHeap (Value.builtin "BaseException.__getattribute__"))=false:=by cases expr <;> rfl
 have GU:(Value.builtin "BaseException.__getattribute__"==Value.builtin "object.__getattribute__")=false:=by decide +kernel
 have Wa:(onTheHeap (Value.ref C)&&Value.builtin "BaseException.__getattribute__"==Value.builtin "object.__getattribute__")=false:=by rw[GU];rfl
 repeat (any_goals (first|assumption|(with_reducible refine Looks.at (by assumption) ?_)|(with_reducible refine Looks.at L0 ?_)|wp_step))
 refine codeAny_call_builtin F.attr_ValueError.ga.plain F.entry_bexc_ga (m3 X k e hc (jh X k e hc ?_))
 repeat (any_goals (first|assumption|wp_step))
theorem vy {Q:Option Value->Shared->Prop}(X:K.In s.heap)(k:p3 K C)(e:s.heap.get? x=some ox)(hc:ox.cls=.ref C)(hq:Q (some (.ref C)) {s with toks:=s.toks+1}):
 wpAny (model prog w) A (getAttr? (.ref x) "__class__") Q E s:=by
 unfold getAttr? getAttrBy?;refine wpAny_bind (wpAny_mkText (wpAny_bind (wpAny_attempt (nX (s:={s with toks:=s.toks+1}) X k e hc ?_))));exact wpAny_pure hq
theorem pX (k:p3 K C):KitX K (.ref x) (.ref C) (λh=>∃o,h.get? x=some o/\o.cls=.ref C) where
 ty:=λ_ _ _ ⟨o,e,hc⟩=>hc▸(Looks.ld e).andThen .now
 it:=λ_ _ X _=>by
  have Io:=k.cls;unfold clsIn at Io
  split at Io
  ·rename_i c' d' Wb Hv ho
   intro A' Q' E' s' kk q;unfold isType loadHead;exact wpAny_bind (wpAny_loadPart (kk _ _ (X _ _ ho)) (wpAny_pure q))
  ·cases Io
 ne:=λh tp dd its n sl X Wc=>by
  have Io:=k.cls;refine Bool.eq_false_iff.mpr λq=>?_;have e:C=tp:=Value.ref.inj (beq_iff_eq.mp q);subst e;unfold clsIn at Io
  split at Io
  ·rename_i c' d' Wb Hv ho
   have z:=(X _ _ ho).symm.trans Wc
   cases z
  ·cases Io
 ca:=λX ⟨o,e,hc⟩ q=>vy X k e hc q
end
section
variable {X:Cx}{pins:List (Addr×Obj)}{σ:St}{H:Hp}{s:Fp}
inductive vB (K:Frag)(H:Hp):V->Value->Prop where
 |of {x:V}{t:Value}(h:BP K H x t):vB K H x t
 |exc {a C:Addr}(e:H a=some (qR a (.ref C)))(k:p3 K C):vB K H (.ref a) (.ref C)
theorem Cn {A:Around}{E:yg}{Q:yg}{x:V}{u t c:Value}{b:Bool}(I:Inv X pins σ H s)(rx:aC x u)(ty:vB X.K H x t)(e:kitOne X.K t c=some b)(h:∀tk,Q (.bool b) {s with toks:=tk}):
 wpAny (model X.prog X.w) A (call (.builtin "isinstance") [u,c]) Q E s:=by
 cases ty with
 |of z=>exact acG I rx z e h
 |exc ea k =>
  rename_i a C
  cases(show u=Value.ref a from rx)
  obtain⟨o,vs,h1,h2,_⟩:=As I.hok ea;exact kia_one (pX k) I.kIn ⟨o,h1,h2⟩ e (λz=>nomatch z) h
noncomputable def BS:V->Value->Prop
 | .ty n,c=>c=.type n
 | .ref a,c=>c=.ref a
 |_,_=>False
theorem bq:bZ X (.builtin "isinstance") (λxs H Q=>∃x c t cv b,xs=[x,c]/\BS c cv/\vB X.K H x t/\kitOne X.K t cv=some b/\Q (.bl b) H):=by
 intro pins s σ H xs us Q I r h;obtain⟨x,c,t,cv,b,rfl,hc,ty,e,q⟩:=h
 cases r with
 |cons r1 r2 =>
  cases r2 with
  |cons r2 r3 =>
   cases r3
   rename_i u uc
   have Qt:uc=cv:=by
    cases c with
    |ty n=>cases(show uc=Value.type n from r2);exact hc.symm
    |ref a=>cases(show uc=Value.ref a from r2);exact hc.symm
    |_=>exact hc.elim
   subst Qt;exact Cn I r1 ty e λtk=>⟨.bl b,H,I.tok tk,rfl,q⟩
end
variable {N:wk}{k:Nat}{sp:Sp}
section
variable {P:vQ}{w:World}{K:PySem.W.Frag}{mg:FA}{base:Heap}
theorem uB.okN (F:uB K x qual st f fd)(S:uZ N ps (ao st))(len:∀vs H Q E,sp vs H Q E->vs.length=ps.length)
 (F2:∀(FJ:Value)(A:Around)(outer:List Env)(s:Fp)(H:Hp)(vs:List V)(Q:VK)(E:XK),om k (A.deeper (envOfC qual (ao st) s.heap.objs.size f FJ))->sp vs H Q E →
  ∃t,iE (dw (aS P w) P w K mg base N qual (ao st) f FJ A outer s H E).nox (bo st) t/\t {nx:=λ_ H'=>Q .non H',rt:=Q} (fR N vs) H):Bu P w K mg base (aS P w) (k+1) f fd ps sp:=by
 obtain⟨oc,od,kV,doc,pm,an,FJ,ct,F0,rfl,lk,Gs⟩:=F.ex;refine tE lk Gs S len λA outer s H vs Q E hr HK=>?_;obtain⟨t,h,q⟩:=F2 FJ A outer s H vs Q E hr HK;exact⟨t,h.nox,q⟩
theorem uB.okE (F:uB K x qual st f fd)(S:uZ N ps (ao st))(len:∀vs H Q E,sp vs H Q E->vs.length=ps.length)
 (F2:∀(FJ:Value)(A:Around)(outer:List Env)(s:Fp)(H:Hp)(vs:List V)(Q:VK)(E:XK),om k (A.deeper (envOfC qual (ao st) s.heap.objs.size f FJ))->sp vs H Q E →
  ∃t,iE (dw (aS P w) P w K mg base N qual (ao st) f FJ A outer s H E) (bo st) t/\t {nx:=λ_ H'=>Q .non H',rt:=Q} (fR N vs) H):Bu P w K mg base (aS P w) (k+1) f fd ps sp:=by
 obtain⟨oc,od,kV,doc,pm,an,FJ,ct,F0,rfl,lk,Gs⟩:=F.ex;exact tE lk Gs S len λA outer s H vs Q E hr HK=>F2 FJ A outer s H vs Q E hr HK
end
variable {xs:List V}{us:qw}
section
variable {X:Cx}
noncomputable def Ca (K:PySem.W.Frag):V->List V->Hp->VK->Prop:=λx vs H Q=>∃l xs y,x=.ref l/\vs=[y]/\aY K H l xs/\(∀z∈xs,eK z=true)/\eK y=true/\Q (.int (xs.countP λz=>vL z y:Nat)) H
theorem oU (r:aG xs us):∀u∈us,∃z∈xs,aC z u:=by
 induction r with
 |nil=>intro u h;cases h
 |cons r _ ih =>
  intro u h
  rcases List.mem_cons.mp h with rfl|h
  ·exact⟨_,List.mem_cons_self,r⟩
  ·obtain⟨z,hz,q⟩:=ih u h;exact⟨z,List.mem_cons_of_mem _ hz,q⟩
theorem rB {y:V}(r:aG xs us)(hf:∀z∈xs,eK z=true):us.countP (vM y)=xs.countP λz=>vL z y:=by
 induction r with
 |nil=>rfl
 |cons r _ ih =>
  rw[List.countP_cons,List.countP_cons,ih λz hz=>hf z (List.mem_cons_of_mem _ hz),gX r (hf _ List.mem_cons_self)]
theorem xF:DU X "list.count" (Ca X.K):=by
 intro pins s σ H x vs v us Q I rx rv h;obtain⟨l,xs,y,rfl,rfl,hS,hf,fy,q⟩:=h
 cases(show v=Value.ref l from rx)
 obtain⟨u,rfl,ru⟩:=rv.one;obtain⟨its,r,⟨⟨oc,od,O2,F0⟩,n,e,hc,hd,Jg⟩,_⟩:=I.list hS;simp only at hc hd Jg;subst hc hd Jg;refine call_meets F.slot_list_count ⟨_,e,rfl⟩ F.entry_list_count (F.args_list_count_2 _ _) (SeqAt.list_countAt l its.toArray n none F0 u (vM y)) ⟨e,λz hz=>?_,?_⟩
 ·obtain⟨zv,Ms,rz⟩:=oU r z (by simpa using hz);rw[gX rz (hf zv Ms)];exact rQ rz ru (hf zv Ms) fy
 ·refine⟨.int _,H,I.tok _,⟨s.toks,rfl⟩,?_⟩;rw[show its.toArray.toList=its from rfl,rB r hf];exact q
noncomputable def CG (K:PySem.W.Frag):V->List V->Hp->VK->Prop:=λx vs H Q=>∃l xs y j,x=.ref l/\vs=[y]/\aY K H l xs/\(∀z∈xs,eK z=true)/\eK y=true/\(∃z,xs[j]?=some z/\vL z y=true)/\(∀i z,i<j->xs[i]?=some z->vL z y=false)/\j<1000/\Q (.int (j:Nat)) H
theorem wR:DU X "list.index" (CG X.K):=by
 intro pins s σ H x vs v us Q I rx rv h;obtain⟨l,xs,y,j,rfl,rfl,hS,hf,fy,⟨z0,LL,e0⟩,GJ,hj,q⟩:=h
 cases(show v=Value.ref l from rx)
 obtain⟨u,rfl,ru⟩:=rv.one;obtain⟨its,r,⟨⟨oc,od,O2,F0⟩,n,e,hc,hd,Jg⟩,_⟩:=I.list hS;simp only at hc hd Jg;subst hc hd Jg;obtain⟨w0,TV,r0⟩:=r.get LL
 have FO:j<its.toArray.size:=by rw[List.size_toArray];exact(List.getElem?_eq_some_iff.mp TV).1
 have Wd:its.toArray[j]=w0:=by
  have z:=(List.getElem?_eq_some_iff.mp TV).2;simpa using z
 refine call_meets F.slot_list_index ⟨_,e,rfl⟩ F.entry_list_index (F.args_list_index_2 _ _) (SeqAt.list_indexAt l its.toArray n none F0 u (vM y) j FO (by omega) (by rw[Wd,gX r0 (hf _ (List.mem_of_getElem? LL))];exact e0) (λm hm We=>?_)) ⟨e,λz hz=>?_,⟨.int _,H,I.tok _,⟨s.toks,rfl⟩,q⟩⟩
 ·have Mp:m<xs.length:=by rw[r.length];simpa using hm
  obtain⟨w1,Wf,r1⟩:=r.get (show xs[m]?=some xs[m] by simp[Mp])
  have Jv:its.toArray[m]=w1:=by
   have z:=(List.getElem?_eq_some_iff.mp Wf).2;simpa using z
  rw[Jv,gX r1 (hf _ (List.getElem_mem Mp))];exact GJ m _ We (by simp[Mp])
 ·obtain⟨zv,Ms,rz⟩:=oU r z (by simpa using hz);rw[gX rz (hf zv Ms)];exact rQ rz ru (hf zv Ms) fy
end
noncomputable def cY (c:Addr)(o:Obj):HO:=.ext λh=>h.get? c=some o
theorem jq {c:Addr}(e:h.get? c=some o):ba P w H h c (cY c o):=⟨e,⟨o,e⟩,λh1 h2 e k=>k o e⟩
noncomputable def dm (cs:List (Addr×Obj))(H:Hp):Hp:=λb=>match cs.lookup b with|some v=>some (cY b v)|none=>H b
noncomputable def eW (cs:List (Addr×Obj))(H:Hp):Hp:=λb=>match cs.lookup b with|some _=>none|none=>H b
variable {cs:List (Addr×Obj)}
theorem jw {v:Obj}(e:cs.lookup b=some v):dm cs H b=some (cY b v):=by unfold dm;rw[e]
theorem bc (e:cs.lookup b=none):dm cs H b=H b:=by unfold dm;rw[e]
theorem dS {v:Obj}(e:cs.lookup b=some v):eW cs H b=none:=by unfold eW;rw[e]
theorem bA (e:cs.lookup b=none):eW cs H b=H b:=by unfold eW;rw[e]
noncomputable def e9 (cs:List (Addr×Obj))(H:Hp):Prop:=∀c v,cs.lookup c=some v->H c=some (cY c v)
noncomputable def rh (cs:List (Addr×Obj))(H:Hp)(h:Heap):Prop:=∀c v,cs.lookup c=some v->H c=none/\h.get? c=some v
section
variable {P:vQ}{w:World}{cs:List (Addr×Obj)}{H H':Hp}{h h':Heap}
theorem kK (k:dM P w H h)(c:rh cs H h):dM P w (dm cs H) h:=λb o e=>by
 cases q:cs.lookup b with
 |some v =>
  rw[jw q] at e
  cases e
  exact jq (c b v q).2
 |none =>
  rw[bc q] at e
  have keep:∀(d:Addr)(x:HO),H d=some x->dm cs H d=some x:=λd x ed=>by
   cases q2:cs.lookup d with
   |some v=>rw[(c d v q2).1] at ed;cases ed
   |none=>rw[bc q2];exact ed
  exact(k b o e).aaY (λd u _ z=>z) (λd z=>keep d _ z) λd xs z=>keep d _ z
theorem pY (k:dM P w H h)(c:e9 cs H):dM P w (eW cs H) h:=λb o e=>by
 cases q:cs.lookup b with
 |some v=>rw[dS q] at e;cases e
 |none =>
  rw[bA q] at e
  have keep:∀(d:Addr)(x:HO),(∀v,x≠cY d v)->H d=some x->eW cs H d=some x:=λd x nx ed=>by
   cases q2:cs.lookup d with
   |some v=>rw[c d v q2] at ed;exact absurd (Option.some.inj ed).symm (nx v)
   |none=>rw[bA q2];exact ed
  exact(k b o e).aaY (λd u _ z=>z) (λd z=>keep d _ (λv q=>by cases q) z) λd xs z=>keep d _ (λv q=>by cases q) z
theorem tJ {fs:List Addr}(u:Un fs [] (eW cs H) H' h h')(c:e9 cs H)(hc:∀a v,cs.lookup a=some v->H' a=none):Un fs [] H (dm cs H') h h':=by
 have nl:∀b,H b=none->cs.lookup b=none:=λb n=>by
  cases q:cs.lookup b with
  |none=>rfl
  |some v=>rw[c b v q] at n;cases n
 have Qu:∀b o,H b=some o->(∀v,o≠cY b v)->cs.lookup b=none:=λb o e nx=>by
  cases q:cs.lookup b with
  |none=>rfl
  |some v=>rw[c b v q] at e;exact absurd (Option.some.inj e).symm (nx v)
 refine⟨λb o e n hb hx=>u.keep b o e (by rw[bA (nl b n)];exact n) hb hx,λb o e n hb hx=>u.slot b o e (by rw[bA (nl b n)];exact n) hb hx,λb o e n hx=>?_,u.there,λb xs e=>?_,λb o x e=>?_,λb ps e=>?_⟩
 ·rw[bc (nl b n)];exact u.free b o e (by rw[bA (nl b n)];exact n) hx
 ·have q:=Qu b _ e λv z=>by cases z
  rw[bc q];exact u.aaC b xs (by rw[bA q];exact e)
 ·have q:=Qu b _ e λv z=>by cases z
  rw[bc q];exact u.aaB b o x (by rw[bA q];exact e)
 ·have q:=Qu b _ e λv z=>by cases z
  obtain⟨m,z⟩:=u.aaI b ps (by rw[bA q];exact e);exact⟨m,by rw[bc q];exact z⟩
theorem zI {fs:List Addr}(u:Un fs [] (dm cs H) H' h h')(c:rh cs H h)(hc:e9 cs H')(hk:dM P w H' h')(nf:∀a v,cs.lookup a=some v->a∉fs):Un fs [] H (eW cs H') h h':=by
 refine⟨λb o e n hb hx=>?_,λb o e n hb hx=>?_,λb o e n hx=>?_,u.there,λb xs e=>?_,λb o x e=>?_,λb ps e=>?_⟩
 ·cases q:cs.lookup b with
  |some v =>
   have e1:=(c b v q).2;rw[e] at e1
   cases e1
   exact(hk b _ (hc b _ q)).1
  |none=>exact u.keep b o e (by rw[bc q];exact n) hb hx
 ·cases q:cs.lookup b with
  |some v=>exact absurd hb (nf b v q)
  |none=>exact u.slot b o e (by rw[bc q];exact n) hb hx
 ·cases q:cs.lookup b with
  |some v=>exact dS q
  |none=>rw[bA q];exact u.free b o e (by rw[bc q];exact n) hx
 ·have q:cs.lookup b=none:=by
   cases z:cs.lookup b with
   |none=>rfl
   |some v=>rw[(c b v z).1] at e;cases e
  rw[bA q];exact u.aaC b xs (by rw[bc q];exact e)
 ·have q:cs.lookup b=none:=by
   cases z:cs.lookup b with
   |none=>rfl
   |some v=>rw[(c b v z).1] at e;cases e
  rw[bA q];exact u.aaB b o x (by rw[bc q];exact e)
 ·have q:cs.lookup b=none:=by
   cases z:cs.lookup b with
   |none=>rfl
   |some v=>rw[(c b v z).1] at e;cases e
  obtain⟨m,y⟩:=u.aaI b ps (by rw[bc q];exact e);exact⟨m,by rw[bA q];exact y⟩
end
section
variable {X:Cx}{CX:AP}{k:Nat}{f:Addr}{fd:ET}{ps:wk}{sp:Sp}{cs:List (Addr×Obj)}
theorem Am {Q:VK}{vs:List V}(F:Bu X.prog X.w X.K X.mg X.base CX k f fd ps sp)(hr:om k X.A)(hb:aA X.K fd ps [])
 (hx:∀(H:Hp)(e:Value)(s':Fp),CX X.stack H s (λ_ _ _=>False) e s'->False)
 (I:Inv X pins σ H s)(c:rh cs H s.heap)(O1:∀a v,cs.lookup a=some v->a∉cW X.stack)(nb:∀a v,cs.lookup a=some v->X.s₀.heap.objs.size<=a)(r:aG vs us)
 (h:sp vs (dm cs H) (λv H'=>e9 cs H'/\Q v (eW cs H')) λ_ _ _=>False):wpAny (model X.prog X.w) X.A (call (.ref f) us) (EP X pins σ Q) X.xe s:=by
 have hl:us.length=ps.length:=by rw[<-r.length];exact F.len _ _ _ _ h
 have Gf:=hb s us I.kIn (by rw[List.append_nil];exact hl);rw[List.append_nil] at Gf
 have out:∀b,b<X.s₀.heap.objs.size->cs.lookup b=none:=λb hb=>by
  cases q:cs.lookup b with
  |none=>rfl
  |some v=>exact absurd (Nat.lt_of_lt_of_le hb (nb b v q)) (Nat.lt_irrefl _)
 have e0:BZ X.prog X.w X.K X.mg X.base X.A X.stack s (dm cs H):=⟨I.ok.frames,I.ok.mod,λb o e=>⟨(I.bs b o e).1,by rw[bc (out b (Nat.lt_of_lt_of_le (Heap.lt_size e) I.ok.bsz))];exact(I.bs b o e).2⟩,Nat.le_trans I.ok.bsz I.sz,I.stack,λb hb=>by
  cases q:cs.lookup b with
  |none=>rw[bc q];exact I.aaP b hb
  |some v=>exact absurd hb (O1 b v q),kK I.hok c,I.bare⟩
 refine wpAny_call (codeAny_mono (F.run X.A X.stack s (dm cs H) ⟨us,[]⟩ us vs _ _ hr e0 Gf r h) λr s' hq=>?_)
 cases r with
 |error e=>exact(hx _ e s' hq).elim
 |ok fl =>
  cases fl with
  |ret u =>
   obtain⟨v,H',os,bare,un,hok,rv,O3,q⟩:=hq;exact⟨v,eW cs H',I.abp (ch:=[]) os (zI un c O3 hok O1) (pY hok O3) bare (λb z=>absurd z (by simp)),rv,q⟩
  |next=>exact False.elim hq
  |brk=>exact False.elim hq
  |cont=>exact False.elim hq
end
structure Bq (X:Cx)(E:XK):Prop where
 ex:X.ex=[]
 stk:X.stack=X.env::X.outer
 fr:X.env.frame=some X.env.locals
 xe:X.xe=λe s'=>wpAny (model X.prog X.w) X.A (leaving X.env e) (λ_ Iq=>aS X.prog X.w X.outer X.H₀ X.s₀ E e Iq) (λe' Iq=>aS X.prog X.w X.outer X.H₀ X.s₀ E e' Iq) s'
theorem uQ {X:Cx}{E:XK}(L:Bq X E):d3 (aS X.prog X.w) X E:=by
 intro pins σ H1 s1 e s' I hx;obtain⟨a,cls,a0,B,d,H',rfl,ho,hg,F,hE⟩:=hx;rw[L.xe];have fl:=F.fly;rw[L.stk] at fl;refine tO (L:=X.env.locals) (by rw[I.ok.frames,L.stk]) L.fr fl λHx x1 x2=>?_;exact⟨a,cls,a0,B,d,H',rfl,ho.trans I.os,hg,p8 I L.ex F x1 x2,hE⟩
noncomputable def CL (P:vQ)(w:World)(K:Frag)(mg:FA)(base:Heap)(N:wk)(qual:Str)(scope:Scope)(f:Addr)(cd:Value)(clos:List (Str×Addr))(A:Around)(outer:List Env)(s:Fp)(H:Hp)(E:XK):Cx where
 prog:=P
 w:=w
 K:=K
 mg:=mg
 base:=base
 A:=A.deeper (envX qual scope s.heap.objs.size f cd clos)
 N:=N
 s₀:=s
 H₀:=H
 env:=envX qual scope s.heap.objs.size f cd clos
 outer:=outer
 stack:=envX qual scope s.heap.objs.size f cd clos::outer
 ex:=[]
 calm:=true
 fn:=λ_=>false
 pn:=[]
 xe:=λe s'=>wpAny (model P w) (A.deeper (envX qual scope s.heap.objs.size f cd clos)) (leaving (envX qual scope s.heap.objs.size f cd clos) e) (λ_ Iq=>aS P w outer H s E e Iq) (λe' Iq=>aS P w outer H s E e' Iq) s'
section
variable {P:vQ}{w:World}{K:Frag}{mg:FA}{base:Heap}{N:wk}{qual name:Str}{scope:Scope}{f c':Addr}{clos:List (Str×Addr)}{A:Around}{outer:List Env}{s:Fp}{H:Hp}{E:XK}{Q:VK}
 {params:Arguments}{body:Expr}{pm ctv:Value}{k:Nat}{vs:List V}
theorem qU {cd:Value}:Bq (CL P w K mg base N qual scope f cd clos A outer s H E) E:=⟨rfl,rfl,rfl,rfl⟩
theorem zL (hr:om (k+1) A)(e0:BZ P w K mg base A outer s H)(hf:s.heap.get? f=some (kla_obj name qual params body scope clos pm c' ctv))(Gs:s.heap.CodeRec (.ref c') qual)
 (Gz:bindArgs (kla_fn name qual params body scope clos pm (.ref c') ctv) ⟨[],[]⟩=pure [])(hk:scope.kind=.function)(KP:scope.isCoroutine=false)(Iy:scope.isGenerator=false)(F8:∀x∈scope.names,x.2≠.cell)
 (has:∀x,scope.names.lookup x=some .free->∃c,clos.lookup x=some c)(inj:∀x y c,clos.lookup x=some c->clos.lookup y=some c->x=y)
 (Jw:∀x c,clos.lookup x=some c->H c=none/\∃v,s.heap.IsCell c v)
 (hN:∀(i:Nat)(x:Str)(v:V),N[i]?=some x->vs[i]?=some v->scope.names.lookup x=some .free/\∃c u,clos.lookup x=some c/\aC v u/\s.heap.IsCell c (some u))(hl:vs.length=N.length)
 (F2:∃t,PE (CL P w K mg base N qual scope f (.ref c') clos A outer s H E) body t/\t (vs.map some) H Q):
 codeAny (model P w) A (.call (.ref f) ⟨[],[]⟩) (CR (aS P w) outer P w H s Q E) s:=by
 obtain⟨t,ht,hq⟩:=F2;refine kla_callFunE hr.depth hf rfl KP Iy rfl Gs ?_;rw[Gz];have lim:s.heap.NoLimit:=e0.mod.nolimit.keeps λb o e=>(e0.bs b o e).1;refine wpAny_pure (wpAny_newFunctionEnv F8 (by intro y hy;simp at hy) (λh₁ LJ TY=>⟨lim.fresh _ TY,?_⟩) hk);show codeAny _ _ (.expr body (envX qual scope s.heap.objs.size f (.ref c') clos)) _ _;have O4:∀b o,s.heap.get? b=some o->h₁.get? b=some o:=λb o e=>TY.extBut b o (Nat.ne_of_lt (Heap.lt_size e)) (Heap.get?_push_of_some _ e);have KU:∀x,scope.names.lookup x≠some .cell:=λx e=>F8 _ (PySem.mem_of_lookup e) rfl
 have I:Inv (CL P w K mg base N qual scope f (.ref c') clos A outer s H E) [] (vs.map some) H {s with heap:=h₁,toks:=s.toks+([]:List (Str×Value)).length}:=by
  refine⟨⟨e0.mod,hk,rfl,rfl,Nat.le_refl _,inj,λx hx=>?_,λx c z _=>absurd (show false=true from z) (by decide),λ_=>hr.hd,Around.frames_deeper e0.frames,.inr ⟨rfl,rfl⟩,λb z=>absurd (show b∈([]:List Addr) from z) (by simp),e0.bs,e0.bsz,
   λb o _ z=>absurd (show b∈([]:List Addr) from z) (by simp),λb z=>absurd (show b∈([]:List Addr) from z) (by simp),e0.aaF,e0.frf⟩,
   rfl,e0.bare,Un.kept O4,⟨_,LJ,λi x v e1 e2 e3=>?_⟩,λx c e=>?_,e0.hok.fresh (Nat.le_refl _),λx c e=>(Jw x c e).1,λp hp=>absurd (show p∈([]:List (Addr×Obj)) from hp) (by simp),e0.hok.kept O4,by rw[List.length_map];exact hl⟩
  ·have hx:scope.names.lookup x=some .cell\/scope.names.lookup x=some .free:=hx
   rcases hx with z|z
   ·exact absurd z (KU x)
   ·exact has x z
  ·have Wg:vs[i]?=some v:=by
    rw[List.getElem?_map] at e2
    cases q:vs[i]? with
    |none=>rw[q] at e2;cases e2
    |some z=>rw[q] at e2;cases e2;rfl
   obtain⟨fr,c,u,hc,r,z⟩:=hN i x v e1 Wg;obtain⟨o,ho,hd⟩:=z;exact⟨u,r,.inr ⟨.inr fr,c,hc,o,O4 _ _ ho,hd⟩⟩
  ·obtain⟨_,v,o,ho,hd⟩:=Jw x c e;exact⟨v,o,O4 _ _ ho,hd⟩
 refine kla_codeExpr (wpAny_mono (ht [] _ _ H Q I hq) (λv s' z'=>?_) λe s' z=>z);obtain⟨x,H',J,r,q⟩:=z';exact⟨x,H',J.os,J.bare,J.base,J.hok,r,q⟩
noncomputable def sQ (P:vQ)(w:World)(K:Frag)(mg:FA)(base:Heap)(k:Nat)(f:Addr)(φ:Hp->VK->XK->Prop):Prop :=
 (∀H h Q E,dM P w H h->φ H Q E->FnAt f h)/\∀(A:Around)(outer:List Env)(s:Fp)(H:Hp)(Q:VK)(E:XK),om k A->BZ P w K mg base A outer s H->φ H Q E->codeAny (model P w) A (.call (.ref f) ⟨[],[]⟩) (CR (aS P w) outer P w H s Q E) s
end
section
variable {X:Cx}{k i:Nat}{x:Str}{p pos:Pos}{E:St->XK}
noncomputable def vX (P:vQ)(w:World)(K:Frag)(mg:FA)(base:Heap)(k i:Nat)(E:St->XK):TE:=λσ H Q=>∃f φ,σ[i]?=some (some (.ref f))/\sQ P w K mg base k f φ/\φ H Q (E σ)
theorem xu (hr:om k X.A)(hx:∀(pins:List (Addr×Obj))(σ:St)(H:Hp)(s:Fp)(e:Value)(s':Fp),Inv X pins σ H s->aS X.prog X.w X.stack H s (E σ) e s'->X.xe e s')(hv:PE X (.Name x p) (fH i)):
 PE X (.Call (.Name x p) [] [] pos) (vX X.prog X.w X.K X.mg X.base k i E):=by
 intro pins s σ H Q I h;obtain⟨f,φ,ef,C,q⟩:=h;refine wpAny_Call_Name_kw (bp (hv pins s σ H (λv H1=>v=.ref f/\H1=H) I ⟨_,ef,rfl,rfl⟩) λv s1 z'=>?_);obtain⟨y,H1,I1,r1,ey,eh⟩:=z';subst ey eh
 cases(show v=Value.ref f from r1)
 refine callWith_F0 (C.1 _ _ _ _ I1.hok q) ?_;refine wpAny_call (codeAny_mono (C.2 X.A X.stack s1 _ Q (E σ) hr I1.abJ q) λr s' hq=>?_)
 cases r with
 |error e=>exact hx pins σ _ s1 e s' I1 hq
 |ok fl =>
  cases fl with
  |ret u=>exact I1.after hq
  |next=>exact False.elim hq
  |brk=>exact False.elim hq
  |cont=>exact False.elim hq
end
section
variable {P:vQ}{w:World}{K:Frag}{mg:FA}{base:Heap}{N:wk}{qual name:Str}{scope:Scope}{f c':Addr}{clos:List (Str×Addr)}{params:Arguments}{body:Expr}{pm ctv:Value}{k:Nat}{vs:List V}{cs:List (Addr×Obj)}{oc:Obj}
noncomputable def Jx (f c':Addr)(fo oc:Obj)(cs:List (Addr×Obj))(φ0:Hp->VK->XK->Prop):Hp->VK->XK->Prop:=λH Q E=>H f=some (cY f fo)/\H c'=some (cY c' oc)/\e9 cs H/\φ0 (eW cs H) (λv H'=>Q v (dm cs H')) λcls d H'=>E cls d (dm cs H')
theorem vC {φ0:Hp->VK->XK->Prop}(Gz:bindArgs (kla_fn name qual params body scope clos pm (.ref c') ctv) ⟨[],[]⟩=pure [])(hk:scope.kind=.function)(KP:scope.isCoroutine=false)(Iy:scope.isGenerator=false)(F8:∀x∈scope.names,x.2≠.cell)
 (has:∀x,scope.names.lookup x=some .free->∃c,clos.lookup x=some c)(inj:∀x y c,clos.lookup x=some c->clos.lookup y=some c->x=y)(GX:∃ws t,oc.data=.fields ws/\ws[1]?=some (.str qual t))
 (LI:∀x c,clos.lookup x=some c->∃o v,cs.lookup c=some o/\o.data=.cell v)
 (hN:∀(i:Nat)(x:Str)(v:V),N[i]?=some x->vs[i]?=some v->scope.names.lookup x=some .free/\∃c o u,clos.lookup x=some c/\cs.lookup c=some o/\o.data=.cell (some u)/\aC v u)(hl:vs.length=N.length)
 (F2:∀(A:Around)(outer:List Env)(s:Fp)(H:Hp)(Q:VK)(E:XK),om k (A.deeper (envX qual scope s.heap.objs.size f (.ref c') clos))->φ0 H Q E->∃t,PE (CL P w K mg base N qual scope f (.ref c') clos A outer s H E) body t/\t (vs.map some) H Q):
 sQ P w K mg base (k+1) f (Jx f c' (kla_obj name qual params body scope clos pm c' ctv) oc cs φ0):=by
 refine⟨λH h Q E hok q=>?_,λA outer s H Q E hr e0 q=>?_⟩
 ·have e:h.get? f=some _:=(hok f _ q.1).1;exact⟨_,_,_,_,e⟩
 ·obtain⟨qf,qc,qi,q0⟩:=q;have ef:s.heap.get? f=some _:=(e0.hok f _ qf).1;have ec:s.heap.get? c'=some oc:=(e0.hok c' _ qc).1;have at_:∀c o,cs.lookup c=some o->s.heap.get? c=some o:=λc o e=>(e0.hok c _ (qi c o e)).1
  have Mt:∀c o,cs.lookup c=some o->c∉cW outer:=λc o e hb=>by
   have:=e0.frf c hb;rw[qi c o e] at this
   cases this
  have G8:∀b,H b=none->eW cs H b=none:=λb n=>by
   cases q:cs.lookup b with
   |some v=>exact dS q
   |none=>rw[bA q];exact n
  have e1:BZ P w K mg base A outer s (eW cs H):=⟨e0.frames,e0.mod,λb o e=>⟨(e0.bs b o e).1,G8 b (e0.bs b o e).2⟩,e0.bsz,e0.aaF,λb hb=>G8 b (e0.frf b hb),pY e0.hok qi,e0.bare⟩;obtain⟨ws,t,d1,d2⟩:=GX;have JR:∀{H':Hp}{h':Heap},Un (cW outer) [] (eW cs H) H' s.heap h'->∀a o,cs.lookup a=some o->H' a=none:=λu a o e=>u.free a o (at_ a o e) (dS e) (by simp);refine codeAny_mono (zL (c':=c') (clos:=clos) (N:=N) (vs:=vs) hr e1 ef ⟨c',oc,ws,t,rfl,ec,d1,d2⟩ Gz hk KP Iy F8 has inj (λx c e=>?_) (λi x v a b=>?_) hl (F2 A outer s _ _ _ (hr.deeper _) q0)) λr s' hq=>?_
  ·obtain⟨o,v,e2,d⟩:=LI x c e;exact⟨dS e2,v,o,at_ c o e2,d⟩
  ·obtain⟨fr,c,o,u,z1,z2,z3,z4⟩:=hN i x v a b;exact⟨fr,c,u,z1,z4,o,at_ c o z2,z3⟩
  ·cases r with
   |error e =>
    obtain⟨a,cls,a0,B,d,H',rfl,os,bare,F,hE⟩:=hq;have hB:∀c o,cs.lookup c=some o->B.get? c=some o:=λc o e=>F.keep c o (at_ c o e) (dS e) (Mt c o e);have hH:∀c o,cs.lookup c=some o->H' c=none:=JR F.un;refine⟨a,cls,a0,B,d,dm cs H',rfl,os,bare,⟨F.fly,tJ F.un qi hH,λb o e n hb=>F.keep b o e (G8 b n) hb,F.there,kK F.hok λc o e=>⟨hH c o e,hB c o e⟩,?_⟩,hE⟩
    have na:cs.lookup a=none:=by
     cases q:cs.lookup a with
     |none=>rfl
     |some o =>
      have:=hB a o q;rw[F.fly.new] at this
      cases this
    rw[bc na];exact F.new
   |ok fl =>
    cases fl with
    |ret u =>
     obtain⟨v,H',os,bare,un,hok,rv,q⟩:=hq;have hH:=JR un;exact⟨v,dm cs H',os,bare,tJ un qi hH,kK hok λc o e=>⟨hH c o e,un.keep c o (at_ c o e) (dS e) (Mt c o e) (by simp)⟩,rv,q⟩
    |next=>exact False.elim hq
    |brk=>exact False.elim hq
    |cont=>exact False.elim hq
end
section
variable {X:Cx}{params:Arguments}{body:Expr}{scope osc:Scope}{pos:Pos}{cc Pt:Addr}
structure lN (X:Cx)(cc Pt:Addr):Prop where
 code:X.env.code=.ref cc
 hd:CodeHd X.base cc Pt
 bm:∃bm ob,X.mg "__builtins__"=some (.ref bm)/\bm≠builtinsNs/\X.base.get? bm=some ob/\ob.cls=.type "module"/\ob.dict=some builtinsNs/\ob.data=.plain
noncomputable abbrev fT (X:Cx)(params:Arguments)(body:Expr)(scope:Scope)(c':Addr)(ctv:Value):Obj:=kla_obj "<lambda>" (X.env.qual++"<lambda>") params body scope (cZ scope.names X.env) ((X.mg "__name__").getD .none) c' ctv
noncomputable def d9 (q:Str)(oc:Obj):Prop:=∃ws t,oc.data=.fields ws/\ws[1]?=some (.str q t)
noncomputable def Dy (X:Cx)(params:Arguments)(body:Expr)(scope:Scope)(pos:Pos)(Pt:Addr):TE:=λ_ H Q=>∃ps,H Pt=some (.tbl ps)/\TriplesOk ps.toList /\
 ((codeAmong pos ps.toList=none/\∀c' f oc ctv,H c'=none->H f=none->c'≠f->d9 (X.env.qual++"<lambda>") oc →
  Q (.ref f) (upd (upd (upd H Pt (.tbl (ps++#[rawInt pos.line,rawInt pos.col,.ref c']))) c' (cY c' oc)) f (cY f (fT X params body scope c' ctv)))) \/
  ∃c' oc,codeAmong pos ps.toList=some (.ref c')/\H c'=some (cY c' oc)/\d9 (X.env.qual++"<lambda>") oc/\∀f ctv,H f=none->Q (.ref f) (upd H f (cY f (fT X params body scope c' ctv))))
theorem uT (M:lN X cc Pt)(Qv:X.env.scope=osc)(Gg:∀y∈scope.names,y.2=.free->osc.names.lookup y.1=some .cell\/osc.names.lookup y.1=some .free)(Qw:defaultsOf params X.env=([],[])):
 PE X (.Lambda params body scope pos) (Dy X params body scope pos Pt):=by
 intro pins s σ H Q I h;obtain⟨ps,hP,ht,h⟩:=h
 have Jw:closureFor scope X.env=pure (cZ scope.names X.env):=gK λy hy hf=>by
  have z:=Gg y hy hf;rw[<-Qv] at z;exact I.ok.has y.1 z
 have eP:s.heap.get? Pt=some (tabObj ps):=I.hok Pt _ hP;have hg:s.heap.Ns mainGlobals X.mg:=I.mod.glob.keeps I.bk
 have Wh:mainGlobals≠Pt:=λq=>by
  obtain⟨o,es,ep,e,hd,_⟩:=hg;rw[q,eP] at e
  cases e
  cases hd
 obtain⟨bm,ob,b1,b2,b3,b4,b5,b6⟩:=M.bm
 have TZ:bm≠Pt:=λq=>by
  have e:=I.bk _ _ b3;rw[q,eP] at e
  cases e
  cases b4
 have T2:bm≠mainGlobals:=λq=>by
  obtain⟨o,es,ep,e,hd,_⟩:=hg;rw[<-q,I.bk _ _ b3] at e
  cases e
  rw[b6] at hd
  cases hd
 have C:=M.hd.keeps I.bk
 have nP:∀b,H b=none->b≠Pt:=λb n z=>by rw[z,hP] at n;cases n
 refine kla_eval Qw ?_
 rcases h with⟨hn,q⟩|⟨c',oc,hf,F1,ho,q⟩
 ·refine kla_makeFunction (mg:=X.mg) Jw I.ok.glob hg M.code C eP ht hn Wh ⟨bm,ob,b1,b2,T2,TZ,I.bk _ _ b3,b4,b5,b6⟩ λc' ctv h' tk hx Qx FO Qy T3=>?_;obtain⟨c2,oc,ws,t,e2,GX,hd,hv⟩:=Qy
  cases e2
  have hsz:s.heap.objs.size<=h'.objs.size:=Nat.le_trans Qx (Nat.le_of_lt FO);have fc:H c'=none:=I.hok.fresh Qx;have ff:H h'.objs.size=none:=I.hok.fresh hsz;have Wi:c'≠h'.objs.size:=Nat.ne_of_lt FO;have old:∀b o,b≠Pt->s.heap.get? b=some o->(h'.push (fT X params body scope c' ctv)).get? b=some o:=λb o n e=>Heap.get?_push_of_some _ (hx b o n e);have lt:∀b o,s.heap.get? b=some o->b≠c'/\b≠h'.objs.size:=λb o e=>⟨Nat.ne_of_lt (Nat.lt_of_lt_of_le (Heap.lt_size e) Qx),Nat.ne_of_lt (Nat.lt_of_lt_of_le (Heap.lt_size e) hsz)⟩;have P1:Pt≠c':=(lt _ _ eP).1;have P2:Pt≠h'.objs.size:=(lt _ _ eP).2
  have nH:∀b o,H b=some o->b≠Pt->(upd (upd (upd H Pt (.tbl (ps++#[rawInt pos.line,rawInt pos.col,.ref c']))) c' (cY c' oc)) h'.objs.size (cY h'.objs.size (fT X params body scope c' ctv))) b=some o:=λb o e n=>by
   obtain⟨ob,eb⟩:=(I.hok b o e).there;rw[ai (lt b ob eb).2,ai (lt b ob eb).1,ai n];exact e
  refine⟨.ref h'.objs.size,_,I.un (t':=tk) (H':=upd (upd (upd H Pt (.tbl (ps++#[rawInt pos.line,rawInt pos.col,.ref c']))) c' (cY c' oc)) h'.objs.size (cY h'.objs.size (fT X params body scope c' ctv))) ?_ ?_,rfl,q c' h'.objs.size oc ctv fc ff Wi ⟨ws,t,hd,hv⟩⟩
  ·refine⟨λb o e n _ _=>old b o (nP b n) e,λb o e n _ _=>⟨o.slots,old b o (nP b n) e⟩,λb o e n _=>?_,λb o e _=>?_,λb xs e=>nH b _ e (λz=>by rw[z,hP] at e;cases e),λb o u e=>nH b _ e (λz=>by rw[z,hP] at e;cases e),λb rs e=>?_⟩
   ·rw[ai (lt b o e).2,ai (lt b o e).1,ai (nP b n)];exact n
   ·by_cases z:b=Pt
    ·exact⟨_,by rw[z];exact Heap.get?_push_of_some _ T3⟩
    ·exact⟨o,old b o z e⟩
   ·by_cases z:b=Pt
    ·rw[z,hP] at e
     cases e
     exact⟨_,by rw[z,ai P2,ai P1,ae]⟩
    ·exact⟨#[],by rw[nH b _ e z];simp⟩
  ·intro b o e
   by_cases z1:b=h'.objs.size
   ·subst z1;rw[ae] at e
    cases e
    exact jq (Heap.get?_push_size _ rfl)
   ·rw[ai z1] at e
    by_cases z2:b=c'
    ·subst z2;rw[ae] at e
     cases e
     exact jq (Heap.get?_push_of_some _ GX)
    ·rw[ai z2] at e
     by_cases z3:b=Pt
     ·subst z3;rw[ae] at e
      cases e
      exact Heap.get?_push_of_some _ T3
     ·rw[ai z3] at e
      refine(I.hok b o e).aaY (λc v hc q=>old c v (λz=>?_) q) (λc q=>nH c _ q λz=>by rw[z,hP] at q;cases q) λc xs q=>nH c _ q λz=>by rw[z,hP] at q;cases q
      rcases hc with hc|hc
      ·exact z3 (hc▸z)
      ·rw[z,hP] at hc;cases hc
 ·refine kla_makeFunctionHit (mg:=X.mg) Jw I.ok.glob hg M.code C eP ht hf ⟨bm,ob,b1,b2,T2,TZ,I.bk _ _ b3,b4,b5,b6⟩ λctv h' tk hk hsz=>?_;have ff:H h'.objs.size=none:=I.hok.fresh hsz;refine⟨.ref h'.objs.size,_,I.laid (t':=tk) (λb u e=>Heap.get?_push_of_some _ (hk b u e)) hsz (jq (Heap.get?_push_size _ rfl)),rfl,q _ ctv ff⟩
end
noncomputable def wY (tabs:List (Addr×Addr))(H:Hp):Prop:=(∀b,H b=none\/(∃o xs,H b=some (.frz o (.lst xs)))\/(H b=some (.tbl #[])/\∃c,(c,b)∈tabs))/\∀q∈tabs,H q.2=some (.tbl #[])
structure zd (tabs:List (Addr×Addr))(mg:FA)(base:Heap):Prop where
 hd:∀q∈tabs,CodeHd base q.1 q.2
 bm:∃bm ob,mg "__builtins__"=some (.ref bm)/\bm≠builtinsNs/\base.get? bm=some ob/\ob.cls=.type "module"/\ob.dict=some builtinsNs/\ob.data=.plain
variable {K:Frag}
theorem uA {mg mb:FA}{CX:AP}{fa:Addr}{s₁:Fp}{vs:qw}{ns:List Int}{tabs:List (Addr×Addr)}
 (KX:K.In s₁.heap)(LJ:s₁.heap.Ns mainGlobals mg)(hb:s₁.heap.Ns builtinsNs mb)(Wj:∀x:Str,x ≠ "__name__"->mb x=bootBuiltins x)(Qz:s₁.heap.NoLimit)(hg:s₁.gens = #[])
 (ha:s₁.heap.get? a=some {cls:=.type "list",data:=.seq vs.toArray})(hi:IntsAre vs ns)(hl:ns.length<=sizeLine)(hr:om k callerA)(hT:TabsAt tabs s₁.heap)(Wk:∀q∈tabs,K.lookup q.2=none)
 (Wl:∃bm ob,mg "__builtins__"=some (.ref bm)/\bm≠builtinsNs/\s₁.heap.get? bm=some ob/\ob.cls=.type "module"/\ob.dict=some builtinsNs/\ob.data=.plain)
 (F:∀base:Heap,K.In base->base.Ns mainGlobals mg->zd tabs mg base->Bu P w K mg base CX k fa fd [x] sp)(Gz:∀(s:Fp)(u:Value),BindsTo s fd ⟨[u],[]⟩ [(x,u)])
 (HK:∀H:Hp,wY tabs H->aY K H a (ns.map V.int)->sp [.ref a] H (λv _=>v=.bl true) λ_ _ _=>False)
 (QA:∀H e s',CX [] H s₁ (λ_ _ _=>False) e s'->False):
 codeAny (model P w) callerA (.call (.ref fa) ⟨[.ref a],[]⟩) (λr s'=>r=.ok (.ret (.bool true))/\OldK s₁.heap s'.heap/\s'.os=s₁.os/\AllBare s'.gens) s₁:=by
 have rv:=mq hi;have QB:=hi.length;have jd:∀b,(∃c,(c,b)∈tabs)->s₁.heap.get? b=some (tabObj #[]):=λb ⟨c,hc⟩=>(hT _ hc).2
 have core:∀H:Hp,wY tabs H->aY K H a (ns.map V.int)->dM P w H s₁.heap->(∀b,H b≠none->b=a\/∃c,(c,b)∈tabs)->(H a≠none->K.lookup a=none) →
  codeAny (model P w) callerA (.call (.ref fa) ⟨[.ref a],[]⟩) (λr s'=>r=.ok (.ret (.bool true))/\OldK s₁.heap s'.heap/\s'.os=s₁.os/\AllBare s'.gens) s₁:=by
  intro H hO hS hok hA hK;have base_of:∀{b:Addr}{o:Obj},s₁.heap.get? b=some o->H b=none->(lK s₁.heap H).get? b=some o:=λe n=>aaR e n
  have T4:∀{b:Addr}{o:Obj},s₁.heap.get? b=some o->o.cls≠.none->(∀its n,o.data≠.seq its n)->H b=none:=λ{b o} e d1 d2=>by
   cases q:H b with
   |none=>rfl
   |some u =>
    rcases hA b (by rw[q];simp) with e'|e'
    ·subst e';rw[ha] at e;cases e;exact absurd rfl (d2 _ _)
    ·rw[jd b e'] at e;cases e;exact absurd rfl d1
  have noA:∀{b:Addr}{o:Obj}{es:Array DictEntry}{ep:Nat},s₁.heap.get? b=some o->o.data=.dict es ep->H b=none:=λ{b o es ep} e d=>by
   cases q:H b with
   |none=>rfl
   |some u =>
    rcases hA b (by rw[q];simp) with e'|e'
    ·subst e';rw[ha] at e;cases e;have d':Data.seq vs.toArray _=Data.dict es ep:=d
     cases d'
    ·rw[jd b e'] at e;cases e;have d':Data.fields #[]=Data.dict es ep:=d
     cases d'
  have O5:∀{b:Addr}{m:FA},s₁.heap.Ns b m->(lK s₁.heap H).Ns b m:=λ{b m} ⟨o,es,ep,e,d,r⟩=>⟨o,es,ep,base_of e (noA e d),d,r⟩
  have T5:K.In (lK s₁.heap H):=λb o e=>base_of (KX b o e) (by
   cases q:H b with
   |none=>rfl
   |some u =>
    rcases hA b (by rw[q];simp) with e'|⟨c,e'⟩
    ·subst e';rw[hK (by rw[q];simp)] at e;cases e
    ·have z:=Wk _ e'
     rw[z] at e;cases e)
  have hM:Mod K mg (lK s₁.heap H):=⟨T5,O5 LJ,⟨mb,O5 hb,Wj⟩,let⟨mc,h1,h2⟩:=Qz;⟨mc,O5 h1,h2⟩⟩
  have Wm:zd tabs mg (lK s₁.heap H):=by
   refine⟨λq hq=>?_,?_⟩
   ·obtain⟨o,ws,file,tf,flags,tg,Wn,text,tt,e1,r1,r2,r3⟩:=(hT q hq).1;exact⟨o,ws,file,tf,flags,tg,Wn,text,tt,base_of e1 (T4 e1 (by rw[r1];intro z;cases z) (λits n z=>by rw[r2] at z;cases z)),r1,r2,r3⟩
   ·obtain⟨bm,ob,b1,b2,b3,b4,b5,b6⟩:=Wl;exact⟨bm,ob,b1,b2,base_of b3 (T4 b3 (by rw[b4];intro z;cases z) (λits n z=>by rw[b6] at z;cases z)),b4,b5,b6⟩
  have e0:BZ P w K mg (lK s₁.heap H) callerA [] s₁ H:=⟨rfl,hM,λb o e=>aaw e,Nat.le_of_eq (aaN _ _),trivial,λb hb=>absurd (show b∈([]:List Addr) from hb) (by simp),hok,.of_eq hg⟩;refine codeAny_mono ((F _ T5 (O5 LJ) Wm).run callerA [] s₁ H ⟨[.ref a],[]⟩ [.ref a] [.ref a] _ _ hr e0 (Gz s₁ (.ref a)) (.cons rfl .nil) (HK H hO hS)) λr s' h=>?_
  cases r with
  |error e=>exact(QA H e s' h).elim
  |ok fl =>
   cases fl with
   |next=>exact False.elim h
   |brk=>exact False.elim h
   |cont=>exact False.elim h
   |ret u =>
    obtain⟨v,H',os,bare,un,Mu,r',q⟩:=h;have q':v=.bl true:=q;subst q';obtain rfl:u=Value.bool true:=r';refine⟨rfl,⟨λb o e=>?_,λb o e=>un.there b o e (by simp)⟩,os,bare⟩
    cases q:H b with
    |none=>exact .inl (un.keep b o e q (by intro z;exact absurd (show b∈([]:List Addr) from z) (by simp)) (by simp))
    |some u =>
     rcases hO.1 b with z|⟨ob,xs,z⟩|⟨z,c,hc⟩
     ·rw[q] at z;cases z
     ·have z2:=un.aaB b ob _ z;obtain⟨e1,_⟩:=hok b _ z;obtain⟨e2,_⟩:=Mu b _ z2;rw[e] at e1;cases e1;exact .inl e2
     ·obtain⟨more,z2⟩:=un.aaI b _ z;have e2:s'.heap.get? b=some {cls:=.none,data:=.fields (#[]++more)}:=Mu b _ z2;have e1:=jd b ⟨c,hc⟩;rw[e] at e1;cases e1;exact .inr (.inl ⟨((hT _ hc).1.tab (hT _ hc).2).isCodeTable,rfl,#[],more,rfl,e2⟩)
 have aT:∀c,(c,a)∉tabs:=λc hc=>by
  have z:=jd a ⟨c,hc⟩;rw[ha] at z
  cases z
 have Mv:∀b,Decidable (∃c,(c,b)∈tabs):=λb=>Classical.propDecidable _
 cases hk:K.lookup a with
 |some o =>
  have e:=KX a o hk;rw[ha] at e
  cases e
  refine core (λb=>@ite _ (∃c,(c,b)∈tabs) (Mv b) (some (.tbl #[])) none) ⟨λb=>?_,λq hq=>?_⟩ (.inr ⟨_,vs.toArray,_,hk,rfl,rfl,rfl,by rw[List.size_toArray,QB];exact hl,by simpa using rv⟩) (λb u z=>?_) (λb z=>?_) λz=>?_
  ·by_cases hb:∃c,(c,b)∈tabs
   ·exact .inr (.inr ⟨if_pos hb,hb⟩)
   ·exact .inl (if_neg hb)
  ·exact if_pos ⟨q.1,hq⟩
  ·by_cases hb:∃c,(c,b)∈tabs
   ·have z':=(if_pos hb).symm.trans z
    cases z'
    exact jd b hb
   ·have z':=(if_neg hb).symm.trans z
    cases z'
  ·by_cases hb:∃c,(c,b)∈tabs
   ·exact .inr hb
   ·exact absurd (if_neg hb) z
  ·exact absurd (if_neg λ⟨c,hc⟩=>aT c hc) z
 |none =>
  refine core (λb=>if b=a then some (.frz {cls:=.type "list",data:=.seq vs.toArray} (.lst (ns.map V.int))) else @ite _ (∃c,(c,b)∈tabs) (Mv b) (some (.tbl #[])) none) ⟨λb=>?_,λq hq=>?_⟩ (.inl (.inr ⟨{cls:=.type "list",data:=.seq vs.toArray},if_pos rfl⟩)) (λb u z=>?_) (λb z=>?_) λ_=>hk
  ·by_cases hb:b=a
   ·exact .inr (.inl ⟨_,_,if_pos hb⟩)
   ·by_cases ht:∃c,(c,b)∈tabs
    ·exact .inr (.inr ⟨(if_neg hb).trans (if_pos ht),ht⟩)
    ·exact .inl ((if_neg hb).trans (if_neg ht))
  ·have hb:q.2≠a:=λz=>aT q.1 (by rw[<-z];exact hq);exact(if_neg hb).trans (if_pos ⟨q.1,hq⟩)
  ·by_cases hb:b=a
   ·have z':=(if_pos hb).symm.trans z
    cases z'
    subst hb;exact⟨ha,by rw[List.length_map];exact hl,vs,_,rv,ha⟩
   ·have z':=(if_neg hb).symm.trans z
    by_cases ht:∃c,(c,b)∈tabs
    ·have z2:=(if_pos ht).symm.trans z'
     cases z2
     exact jd b ht
    ·have z2:=(if_neg ht).symm.trans z'
     cases z2
  ·by_cases hb:b=a
   ·exact .inl hb
   ·by_cases ht:∃c,(c,b)∈tabs
    ·exact .inr ht
    ·exact absurd ((if_neg hb).trans (if_neg ht)) z
structure Ec (K:Frag)(x qual:Str)(st:Stmt)(f:Addr)(fd:ET)(T:Addr):Prop where
 ex:∃(oc:Value)(od:CC)(kV doc pm:Value)(an:CC)(FJ ct:Value)(F0:DP),
  fd=fnOf x qual (bH st) (bo st) (ao st) (.ref T) kV doc pm an FJ ct/\K.lookup f=some ⟨oc,od,.func fd,F0⟩/\codeIn K FJ qual=true
 kp:keepIn K (.ref f)=true
section
variable {P:vQ}{w:World}{K:Frag}{mg:FA}{base:Heap}
theorem Ec.okE {T:Addr}(F:Ec K x qual st f fd T)(S:uZ N ps (ao st))(len:∀vs H Q E,sp vs H Q E->vs.length=ps.length)
 (F2:∀(FJ:Value)(A:Around)(outer:List Env)(s:Fp)(H:Hp)(vs:List V)(Q:VK)(E:XK),om k (A.deeper (envOfC qual (ao st) s.heap.objs.size f FJ))->sp vs H Q E →
  ∃t,iE (dw (aS P w) P w K mg base N qual (ao st) f FJ A outer s H E) (bo st) t/\t {nx:=λ_ H'=>Q .non H',rt:=Q} (fR N vs) H):Bu P w K mg base (aS P w) (k+1) f fd ps sp:=by
 obtain⟨oc,od,kV,doc,pm,an,FJ,ct,F0,rfl,lk,Gs⟩:=F.ex;exact tE lk Gs S len λA outer s H vs Q E hr HK=>F2 FJ A outer s H vs Q E hr HK
theorem zc {T:Addr}{oc:Value}{od an:CC}{F0:DP}{kV doc pm FJ ct:Value}(l:K.lookup f=some ⟨oc,od,.func (fnOf x qual (bH st) (bo st) (ao st) (.ref T) kV doc pm an FJ ct),F0⟩)
 (c:codeIn K FJ qual=true)(k:keepIn K (.ref f)=true):Ec K x qual st f (fnOf x qual (bH st) (bo st) (ao st) (.ref T) kV doc pm an FJ ct) T:=⟨⟨oc,od,kV,doc,pm,an,FJ,ct,F0,rfl,l,c⟩,k⟩
end
noncomputable def iy (X:Cx)(y:Str):Addr:=(X.env.cells.lookup y).getD 0
noncomputable def gO:Expr->Bool
 | .Starred _ _=>true
 |_=>false
theorem cx {e:Expr}{rest:Bo}(h:gO e=false):starEach (e::rest) env=(false,eval e env):: starEach rest env:=by
 cases e <;> first|rfl|cases h
section
variable {X:Cx}{e:Expr}{es:Bo}{te:TE}{t:TA}
theorem aq (ha:PE X e te)(hr:PA X es t)(h:gO e=false:=by rfl):PA X (e::es) (eC te t):=aW ha hr (cx h)
end
inductive D where
 |non|bl (b:Bool)|int (i:Int)|str (x:Str)|lst (ds:List D)|tup (ds:List D)
mutual
noncomputable def aH (K:Frag)(H:Hp):D->V->Prop
 | .non,v=>v=.non
 | .bl b,v=>v=.bl b
 | .int i,v=>v=.int i
 | .str x,v=>v=.str x
 | .lst ds,v=>∃a xs,v=.ref a/\aY K H a xs/\bh K H ds xs
 | .tup ds,v=>∃a xs,v=.ref a/\bf K H a xs/\bh K H ds xs
noncomputable def bh (K:Frag)(H:Hp):List D->List V->Prop
 |[],xs=>xs=[]
 |d::ds,xs=>∃y ys,xs=y::ys/\aH K H d y/\bh K H ds ys
end
mutual
noncomputable def gH:D->D->Bool
 | .non,.non=>true
 | .bl a,.bl b=>a==b
 | .bl a,.int b=>(if a then 1 else 0)==b
 | .int a,.bl b=>a==(if b then 1 else 0)
 | .int a,.int b=>a==b
 | .str a,.str b=>a==b
 | .lst a,.lst b=>dI a b
 | .tup a,.tup b=>dI a b
 |_,_=>false
noncomputable def dI:List D->List D->Bool
 |[],[]=>true
 |a::as,b::bs=>gH a b&&dI as bs
 |_,_=>false
end
mutual
noncomputable def jn:D->Nat
 | .lst ds=>gL ds+1
 | .tup ds=>gL ds+1
 |_=>0
noncomputable def gL:List D->Nat
 |[]=>0
 |d::ds=>max (jn d) (gL ds)
end
theorem tN:∀{ds:List D}{d:D},d∈ds->jn d<=gL ds
 |e::ds,d,h=>by
  unfold gL
  rcases List.mem_cons.mp h with rfl|h
  ·exact Nat.le_max_left _ _
  ·exact Nat.le_trans (tN h) (Nat.le_max_right _ _)
theorem gY:∀(as bs:List D),dI as bs=((List.range (min as.length bs.length)).all (λj=>gH (as.getD j .non) (bs.getD j .non))&&as.length==bs.length)
 |[],[]=>rfl
 |[],b::bs=>by simp;rfl
 |a::as,[]=>by simp;rfl
 |a::as,b::bs=>by
  show(gH a b&&dI as bs)=_;rw[gY as bs]
  have e:min (a::as).length (b::bs).length=min as.length bs.length+1:=by simp[Nat.succ_min_succ]
  rw[e,List.range_succ_eq_map,List.all_cons,List.all_map]
  have h1:((a::as).length==(b::bs).length)=(as.length==bs.length):=by simp
  rw[h1,Bool.and_assoc];rfl
theorem bh.len :∀{ds:List D}{xs:List V},bh K H ds xs->ds.length=xs.length
 |[],xs,h=>by
  have h:xs=[]:=by unfold bh at h;exact h
  rw[h];rfl
 |d::ds,xs,h=>by
  unfold bh at h;obtain⟨y,ys,rfl,_,h⟩:=h;simp[bh.len h]
theorem bh.get :∀{ds:List D}{xs:List V}{j:Nat}(hj:j<xs.length),bh K H ds xs->aH K H (ds.getD j .non) xs[j]/\ds.getD j .non∈ds
 |[],xs,j,hj,h=>by
  have h:xs=[]:=by unfold bh at h;exact h
  subst h;exact absurd hj (by simp)
 |d::ds,xs,j,hj,h=>by
  unfold bh at h;obtain⟨y,ys,rfl,hd,h⟩:=h
  cases j with
  |zero=>exact⟨hd,List.mem_cons_self⟩
  |succ j =>
   obtain⟨h1,h2⟩:=bh.get (j:=j) (by simpa using hj) h;exact⟨h1,List.mem_cons_of_mem _ h2⟩
mutual
theorem eO:∀d:D,gH d d=true
 | .non=>rfl
 | .bl b=>beq_self_eq_true b
 | .int i=>beq_self_eq_true i
 | .str x=>beq_self_eq_true x
 | .lst ds=>iG ds
 | .tup ds=>iG ds
theorem iG:∀ds:List D,dI ds ds=true
 |[]=>rfl
 |d::ds=>by show(gH d d&&dI ds ds)=true;rw[eO d,iG ds];rfl
end
section
variable {X:Cx}{pins:List (Addr×Obj)}{σ:St}{H:Hp}{s:Fp}
theorem fV (I:Inv X pins σ H s){ys:List V}(h1:aY X.K H a xs)(h2:bf X.K H a ys):False:=by
 obtain⟨its,_,p1,_⟩:=I.list h1;obtain⟨FK,_,p2,_⟩:=I.tuple h2;exact SeqAt.ne_of_list_tuple p1.isList (show s.heap.IsTuple a FK.toArray from p2) rfl
mutual
theorem kY (I:Inv X pins σ H s):∀(d e:D)(v:V),aH X.K H d v->aH X.K H e v->gH d e=true
 | .non,e,v,h1,h2=>by
   unfold aH at h1;subst h1
   cases e <;> unfold aH at h2 <;> first|(obtain⟨_,_,z,_⟩:=h2;cases z;done)|rfl|(cases h2;done)
 | .bl b,e,v,h1,h2=>by
   unfold aH at h1;subst h1
   cases e <;> unfold aH at h2 <;> first|(obtain⟨_,_,z,_⟩:=h2;cases z;done)|(cases h2;exact eO _)|(cases h2;done)
 | .int b,e,v,h1,h2=>by
   unfold aH at h1;subst h1
   cases e <;> unfold aH at h2 <;> first|(obtain⟨_,_,z,_⟩:=h2;cases z;done)|(cases h2;exact eO _)|(cases h2;done)
 | .str b,e,v,h1,h2=>by
   unfold aH at h1;subst h1
   cases e <;> unfold aH at h2 <;> first|(obtain⟨_,_,z,_⟩:=h2;cases z;done)|(cases h2;exact eO _)|(cases h2;done)
 | .lst ds,e,v,h1,h2=>by
   unfold aH at h1;obtain⟨a,xs,rfl,q,r⟩:=h1
   cases e with
   |lst es =>
    unfold aH at h2;obtain⟨b,ys,z,q2,r2⟩:=h2
    cases z
    have e:=I.aa9 q q2;subst e;exact iN I ds es xs r r2
   |tup es =>
    unfold aH at h2;obtain⟨b,ys,z,q2,r2⟩:=h2
    cases z
    exact(fV I q q2).elim
   |_=>unfold aH at h2;cases h2
 | .tup ds,e,v,h1,h2=>by
   unfold aH at h1;obtain⟨a,xs,rfl,q,r⟩:=h1
   cases e with
   |tup es =>
    unfold aH at h2;obtain⟨b,ys,z,q2,r2⟩:=h2
    cases z
    have e:=I.aaT q q2;subst e;exact iN I ds es xs r r2
   |lst es =>
    unfold aH at h2;obtain⟨b,ys,z,q2,r2⟩:=h2
    cases z
    exact(fV I q2 q).elim
   |_=>unfold aH at h2;cases h2
theorem iN (I:Inv X pins σ H s):∀(ds es:List D)(xs:List V),bh X.K H ds xs->bh X.K H es xs->dI ds es=true
 |[],es,xs,h1,h2=>by
  unfold bh at h1;subst h1
  cases es with
  |nil=>rfl
  |cons e es=>unfold bh at h2;obtain⟨_,_,z,_⟩:=h2;cases z
 |d::ds,es,xs,h1,h2=>by
  unfold bh at h1;obtain⟨y,ys,rfl,hd,h1⟩:=h1
  cases es with
  |nil=>unfold bh at h2;cases h2
  |cons e es =>
   unfold bh at h2;obtain⟨_,_,z,he,h2⟩:=h2
   cases z
   show(gH d e&&dI ds es)=true;rw[kY I d e y hd he,iN I ds es ys h1 h2];rfl
end
theorem j9 (I:Inv X pins σ H s)(n:Nat)(ih:n≠0->∀(A:Around)(d e:D)(x y:V)(u v:Value),jn d<=n-1->A.units+(n-1)<cLine->aH X.K H d x->aH X.K H e y->aC x u->aC y v->SeqAt.EqAt A s u v (gH d e))
 (QC:n≠0)(A:Around)(hu:A.units+n<cLine){ds es:List D}{ys:List V}{its FK:qw}(r1:bh X.K H ds xs)(r2:bh X.K H es ys)(rv:aG xs its)(GV:aG ys FK)(hn:gL ds<=n-1):
 ∀j (h1:j<its.toArray.size)(h2:j<FK.toArray.size),SeqAt.EqAt A.in1 s its.toArray[j] FK.toArray[j] (gH (ds.getD j .non) (es.getD j .non)):=by
 intro j h1 h2
 have e1:j<xs.length:=by rw[rv.length];simpa using h1
 have e2:j<ys.length:=by rw[GV.length];simpa using h2
 obtain⟨d1,m1⟩:=r1.get e1;obtain⟨d2,m2⟩:=r2.get e2;obtain⟨u,QD,ru⟩:=rv.get (List.getElem?_eq_getElem e1);obtain⟨v,Wo,Wq⟩:=GV.get (List.getElem?_eq_getElem e2)
 have z1:its.toArray[j]=u:=by
  have:=List.getElem?_eq_some_iff.mp QD;obtain⟨_,q⟩:=this;simpa using q
 have z2:FK.toArray[j]=v:=by
  have:=List.getElem?_eq_some_iff.mp Wo;obtain⟨_,q⟩:=this;simpa using q
 rw[z1,z2];exact ih QC A.in1 _ _ _ _ _ _ (Nat.le_trans (tN m1) hn) (by show A.units+1+(n-1)<cLine;omega) d1 d2 ru Wq
theorem l7 (I:Inv X pins σ H s)(n:Nat)(ih:n≠0->∀(A:Around)(d e:D)(x y:V)(u v:Value),jn d<=n-1->A.units+(n-1)<cLine->aH X.K H d x->aH X.K H e y->aC x u->aC y v->SeqAt.EqAt A s u v (gH d e))
 (A:Around)(d e:D)(x y:V)(u v:Value)(hn:jn d<=n)(hu:A.units+n<cLine)(h1:aH X.K H d x)(h2:aH X.K H e y)(rx:aC x u)(ry:aC y v):
 SeqAt.RcAt A s u v (gH d e)/\SeqAt.EqAt A s u v (gH d e)/\SeqAt.RcNeAt A s u v (!gH d e):=by
 have FR:A.units<cLine:=by omega
 cases d with
 |non =>
  unfold aH at h1;subst h1
  cases rx
  cases e with
  |non =>
   unfold aH at h2;subst h2
   cases ry
   exact⟨.none_none,.same _,.none_none⟩
  |bl q =>
   unfold aH at h2;subst h2
   cases ry
   exact⟨.none_bool q,.none_bool q,.none_bool q⟩
  |int q =>
   unfold aH at h2;subst h2;obtain⟨tq,rfl⟩:=ry;exact⟨.none_int q tq,.none_int q tq,.none_int q tq⟩
  |str q =>
   unfold aH at h2;subst h2;obtain⟨tq,rfl⟩:=ry;exact⟨.none_str q tq,.none_str q tq,.none_str q tq⟩
  |lst es =>
   unfold aH at h2;obtain⟨b,ys,rfl,q2,r2⟩:=h2
   cases ry
   obtain⟨FK,GV,p2,_⟩:=I.list q2;exact⟨.none_list  p2.isList FR,.none_list  p2.isList FR,.none_list  p2.isList FR⟩
  |tup es =>
   unfold aH at h2;obtain⟨b,ys,rfl,q2,r2⟩:=h2
   cases ry
   obtain⟨FK,GV,p2,_⟩:=I.tuple q2;have p2:s.heap.IsTuple b FK.toArray:=p2;exact⟨.none_tuple  p2 FR,.none_tuple  p2 FR,.none_tuple  p2 FR⟩
 |bl p =>
  unfold aH at h1;subst h1
  cases rx
  cases e with
  |non =>
   unfold aH at h2;subst h2
   cases ry
   exact⟨.bool_none p,.bool_none p,.bool_none p⟩
  |bl q =>
   unfold aH at h2;subst h2
   cases ry
   exact⟨.bool_bool p q,.bool_bool p q,.bool_bool p q⟩
  |int q =>
   unfold aH at h2;subst h2;obtain⟨tq,rfl⟩:=ry;exact⟨.bool_int p q tq,.bool_int p q tq,.bool_int p q tq⟩
  |str q =>
   unfold aH at h2;subst h2;obtain⟨tq,rfl⟩:=ry;exact⟨.bool_str p q tq,.bool_str p q tq,.bool_str p q tq⟩
  |lst es =>
   unfold aH at h2;obtain⟨b,ys,rfl,q2,r2⟩:=h2
   cases ry
   obtain⟨FK,GV,p2,_⟩:=I.list q2;exact⟨.bool_list p p2.isList FR,.bool_list p p2.isList FR,.bool_list p p2.isList FR⟩
  |tup es =>
   unfold aH at h2;obtain⟨b,ys,rfl,q2,r2⟩:=h2
   cases ry
   obtain⟨FK,GV,p2,_⟩:=I.tuple q2;have p2:s.heap.IsTuple b FK.toArray:=p2;exact⟨.bool_tuple p p2 FR,.bool_tuple p p2 FR,.bool_tuple p p2 FR⟩
 |int p =>
  unfold aH at h1;subst h1;obtain⟨tp,rfl⟩:=rx
  cases e with
  |non =>
   unfold aH at h2;subst h2
   cases ry
   exact⟨.int_none p tp,.int_none p tp,.int_none p tp⟩
  |bl q =>
   unfold aH at h2;subst h2
   cases ry
   exact⟨.int_bool p tp q,.int_bool p tp q,.int_bool p tp q⟩
  |int q =>
   unfold aH at h2;subst h2;obtain⟨tq,rfl⟩:=ry;exact⟨.int_int p tp q tq,.int_int p tp q tq,.int_int p tp q tq⟩
  |str q =>
   unfold aH at h2;subst h2;obtain⟨tq,rfl⟩:=ry;exact⟨.int_str p tp q tq,.int_str p tp q tq,.int_str p tp q tq⟩
  |lst es =>
   unfold aH at h2;obtain⟨b,ys,rfl,q2,r2⟩:=h2
   cases ry
   obtain⟨FK,GV,p2,_⟩:=I.list q2;exact⟨.int_list p tp p2.isList FR,.int_list p tp p2.isList FR,.int_list p tp p2.isList FR⟩
  |tup es =>
   unfold aH at h2;obtain⟨b,ys,rfl,q2,r2⟩:=h2
   cases ry
   obtain⟨FK,GV,p2,_⟩:=I.tuple q2;have p2:s.heap.IsTuple b FK.toArray:=p2;exact⟨.int_tuple p tp p2 FR,.int_tuple p tp p2 FR,.int_tuple p tp p2 FR⟩
 |str p =>
  unfold aH at h1;subst h1;obtain⟨tp,rfl⟩:=rx
  cases e with
  |non =>
   unfold aH at h2;subst h2
   cases ry
   exact⟨.str_none p tp,.str_none p tp,.str_none p tp⟩
  |bl q =>
   unfold aH at h2;subst h2
   cases ry
   exact⟨.str_bool p tp q,.str_bool p tp q,.str_bool p tp q⟩
  |int q =>
   unfold aH at h2;subst h2;obtain⟨tq,rfl⟩:=ry;exact⟨.str_int p tp q tq,.str_int p tp q tq,.str_int p tp q tq⟩
  |str q =>
   unfold aH at h2;subst h2;obtain⟨tq,rfl⟩:=ry;exact⟨.str_str p tp q tq,.str_str p tp q tq,.str_str p tp q tq⟩
  |lst es =>
   unfold aH at h2;obtain⟨b,ys,rfl,q2,r2⟩:=h2
   cases ry
   obtain⟨FK,GV,p2,_⟩:=I.list q2;exact⟨.str_list p tp p2.isList FR,.str_list p tp p2.isList FR,.str_list p tp p2.isList FR⟩
  |tup es =>
   unfold aH at h2;obtain⟨b,ys,rfl,q2,r2⟩:=h2
   cases ry
   obtain⟨FK,GV,p2,_⟩:=I.tuple q2;have p2:s.heap.IsTuple b FK.toArray:=p2;exact⟨.str_tuple p tp p2 FR,.str_tuple p tp p2 FR,.str_tuple p tp p2 FR⟩
 |lst ds =>
  unfold aH at h1;obtain⟨a,xs,rfl,q1,r1⟩:=id h1
  cases rx
  obtain⟨its,rv,p1,_⟩:=I.list q1;have p1:s.heap.IsList a its.toArray:=p1.isList
  cases e with
  |non =>
   unfold aH at h2;subst h2
   cases ry
   exact⟨.list_none  p1 FR,.list_none  p1 FR,.list_none  p1 FR⟩
  |bl q =>
   unfold aH at h2;subst h2
   cases ry
   exact⟨.list_bool q p1 FR,.list_bool q p1 FR,.list_bool q p1 FR⟩
  |int q =>
   unfold aH at h2;subst h2;obtain⟨tq,rfl⟩:=ry;exact⟨.list_int q tq p1 FR,.list_int q tq p1 FR,.list_int q tq p1 FR⟩
  |str q =>
   unfold aH at h2;subst h2;obtain⟨tq,rfl⟩:=ry;exact⟨.list_str q tq p1 FR,.list_str q tq p1 FR,.list_str q tq p1 FR⟩
  |lst es =>
   unfold aH at h2;obtain⟨b,ys,rfl,q2,r2⟩:=id h2
   cases ry
   obtain⟨FK,GV,p2,_⟩:=I.list q2;have p2:s.heap.IsList b FK.toArray:=p2.isList;have el:=j9 I n ih (by unfold jn at hn;omega) A hu r1 r2 rv GV (by unfold jn at hn;omega)
   have l1:its.toArray.size=ds.length:=by rw[List.size_toArray,<-rv.length,r1.len]
   have l2:FK.toArray.size=es.length:=by rw[List.size_toArray,<-GV.length,r2.len]
   have dr:=gY ds es
   have key:SeqAt.RcAt A s (.ref a) (.ref b) (dI ds es)/\SeqAt.RcNeAt A s (.ref a) (.ref b) (!dI ds es):=by
    by_cases hl:ds.length=es.length
    ·have hs:its.toArray.size=FK.toArray.size:=by rw[l1,l2,hl]
     have z:(List.range its.toArray.size).all (λj=>gH (ds.getD j .non) (es.getD j .non))=dI ds es:=by rw[dr,l1,hl];simp
     have c1:=SeqAt.RcAt.lists p1 p2 hs FR el;have c2:=SeqAt.RcNeAt.lists p1 p2 hs FR el;rw[z] at c1 c2;exact⟨c1,c2⟩
    ·have z:dI ds es=false:=by rw[dr];simp[hl]
     have hs:(its.toArray.size != FK.toArray.size)=true:=by rw[l1,l2];simpa using hl
     rw[z];exact⟨SeqAt.RcAt.lists_lengths p1 p2 hs FR,SeqAt.RcNeAt.lists_lengths p1 p2 hs FR⟩
   have KW:gH (.lst ds) (.lst es)=dI ds es:=rfl
   by_cases KY:a=b
   ·subst KY;have z:=kY I (.lst ds) (.lst es) (.ref a) (by unfold aH;exact⟨a,xs,rfl,q1,r1⟩) (by unfold aH;exact⟨a,ys,rfl,q2,r2⟩);refine⟨by rw[KW];exact key.1,by rw[z];exact .same _,by rw[KW];exact key.2⟩
   ·rw[KW];exact⟨key.1,.of_refs KY key.1,key.2⟩
  |tup es =>
   unfold aH at h2;obtain⟨b,ys,rfl,q2,r2⟩:=id h2
   cases ry
   obtain⟨FK,GV,p2,_⟩:=I.tuple q2;have p2:s.heap.IsTuple b FK.toArray:=p2;exact⟨.list_tuple p1 p2 FR,.list_tuple p1 p2 FR,.list_tuple p1 p2 FR⟩
 |tup ds =>
  unfold aH at h1;obtain⟨a,xs,rfl,q1,r1⟩:=id h1
  cases rx
  obtain⟨its,rv,p1,_⟩:=I.tuple q1;have p1:s.heap.IsTuple a its.toArray:=p1
  cases e with
  |non =>
   unfold aH at h2;subst h2
   cases ry
   exact⟨.tuple_none  p1 FR,.tuple_none  p1 FR,.tuple_none  p1 FR⟩
  |bl q =>
   unfold aH at h2;subst h2
   cases ry
   exact⟨.tuple_bool q p1 FR,.tuple_bool q p1 FR,.tuple_bool q p1 FR⟩
  |int q =>
   unfold aH at h2;subst h2;obtain⟨tq,rfl⟩:=ry;exact⟨.tuple_int q tq p1 FR,.tuple_int q tq p1 FR,.tuple_int q tq p1 FR⟩
  |str q =>
   unfold aH at h2;subst h2;obtain⟨tq,rfl⟩:=ry;exact⟨.tuple_str q tq p1 FR,.tuple_str q tq p1 FR,.tuple_str q tq p1 FR⟩
  |lst es =>
   unfold aH at h2;obtain⟨b,ys,rfl,q2,r2⟩:=id h2
   cases ry
   obtain⟨FK,GV,p2,_⟩:=I.list q2;have p2:s.heap.IsList b FK.toArray:=p2.isList;exact⟨.tuple_list p1 p2 FR,.tuple_list p1 p2 FR,.tuple_list p1 p2 FR⟩
  |tup es =>
   unfold aH at h2;obtain⟨b,ys,rfl,q2,r2⟩:=id h2
   cases ry
   obtain⟨FK,GV,p2,_⟩:=I.tuple q2;have p2:s.heap.IsTuple b FK.toArray:=p2;have el:=j9 I n ih (by unfold jn at hn;omega) A hu r1 r2 rv GV (by unfold jn at hn;omega)
   have l1:its.toArray.size=ds.length:=by rw[List.size_toArray,<-rv.length,r1.len]
   have l2:FK.toArray.size=es.length:=by rw[List.size_toArray,<-GV.length,r2.len]
   have dr:=gY ds es
   have key:SeqAt.RcAt A s (.ref a) (.ref b) (dI ds es)/\SeqAt.RcNeAt A s (.ref a) (.ref b) (!dI ds es):=by
    have z:((List.range (min its.toArray.size FK.toArray.size)).all (λj=>gH (ds.getD j .non) (es.getD j .non))&&its.toArray.size==FK.toArray.size)=dI ds es:=by rw[dr,l1,l2]
    have c1:=SeqAt.RcAt.tuples p1 p2 FR el;have c2:=SeqAt.RcNeAt.tuples p1 p2 FR el;rw[z] at c1 c2;exact⟨c1,c2⟩
   have KW:gH (.tup ds) (.tup es)=dI ds es:=rfl
   by_cases KY:a=b
   ·subst KY;have z:=kY I (.tup ds) (.tup es) (.ref a) (by unfold aH;exact⟨a,xs,rfl,q1,r1⟩) (by unfold aH;exact⟨a,ys,rfl,q2,r2⟩);refine⟨by rw[KW];exact key.1,by rw[z];exact .same _,by rw[KW];exact key.2⟩
   ·rw[KW];exact⟨key.1,.of_refs KY key.1,key.2⟩
theorem eA (I:Inv X pins σ H s):∀(n:Nat)(A:Around)(d e:D)(x y:V)(u v:Value),jn d<=n->A.units+n<cLine->aH X.K H d x->aH X.K H e y->aC x u->aC y v →
 SeqAt.RcAt A s u v (gH d e)/\SeqAt.EqAt A s u v (gH d e)/\SeqAt.RcNeAt A s u v (!gH d e):=by
 intro n
 induction n with
 |zero=>exact λA d e x y u v hn hu h1 h2 rx ry=>l7 I 0 (λz=>absurd z (by simp)) A d e x y u v hn hu h1 h2 rx ry
 |succ n ih=>exact λA d e x y u v hn hu h1 h2 rx ry=>l7 I (n+1) (λ_ A d e x y u v hn hu h1 h2 rx ry=>(ih A d e x y u v hn hu h1 h2 rx ry).2.1) A d e x y u v hn hu h1 h2 rx ry
end
section
variable {X:Cx}
noncomputable def BC (K:Frag)(neg:Bool):R2:=λx y H Q=>∃d e,aH K H d x/\aH K H e y/\jn d<=32/\Q (.bl (gH d e != neg)) H
theorem BR (hr:om k X.A):fu X (compareOp .Eq) (BC X.K false):=by
 intro pins s σ H x y v u Q I rx ry h;obtain⟨d,e,h1,h2,hd,q⟩:=h;have z:=(eA I 32 X.A d e x y v u hd (by have:=hr.units;omega) h1 h2 rx ry).1;exact z X.prog X.w X.xe _ ⟨.bl (gH d e),H,I,rfl,by simpa using q⟩
theorem vW (hr:om k X.A):fu X (compareOp .NotEq) (BC X.K true):=by
 intro pins s σ H x y v u Q I rx ry h;obtain⟨d,e,h1,h2,hd,q⟩:=h;have z:=(eA I 32 X.A d e x y v u hd (by have:=hr.units;omega) h1 h2 rx ry).2.2
 exact z X.prog X.w X.xe _ ⟨.bl (!gH d e),H,I,rfl,by
  have e1:(gH d e != true) = !gH d e:=by cases gH d e <;> rfl
  rw[e1] at q
  exact q⟩
end
end L2
namespace Nm
noncomputable def bO (a b:Int):Int:=(Int.gcd a b:Int)
noncomputable def dv (t b:Int):Int:=if b<0 then -(bO t b) else bO t b
noncomputable def de (t b:Int):Int:=t.fdiv (dv t b)
noncomputable def cm (t b:Int):Int:=b.fdiv (dv t b)
variable {b:Int}
theorem dh {t:Int}(h:b≠0):0<bO t b:=by
 unfold bO;have:0<Int.gcd t b:=Int.gcd_pos_of_ne_zero_right _ h;omega
theorem lZ {t:Int}(h:b≠0):dv t b≠0:=by
 have:=dh (t:=t) h;unfold dv
 split <;> omega
theorem Ej {t:Int}:dv t b ∣ t:=by
 unfold dv bO
 split
 ·exact Int.neg_dvd.mpr (Int.gcd_dvd_left ..)
 ·exact Int.gcd_dvd_left ..
theorem EX {t:Int}:dv t b ∣ b:=by
 unfold dv bO
 split
 ·exact Int.neg_dvd.mpr (Int.gcd_dvd_right ..)
 ·exact Int.gcd_dvd_right ..
theorem pA {a:Int}(h:b ∣ a)(hb:b≠0):a.fdiv b*b=a:=by
 obtain⟨c,rfl⟩:=h;rw[Int.mul_fdiv_cancel_left _ hb,Int.mul_comm]
theorem pJ {t:Int}(h:b≠0):de t b*dv t b=t:=pA Ej (lZ h)
theorem jP {t:Int}(h:b≠0):cm t b*dv t b=b:=pA EX (lZ h)
theorem nt {t:Int}(h:b≠0):0<cm t b:=by
 have e:=jP (t:=t) h;have g:=dh (t:=t) h
 by_cases hb:b<0
 ·have hd:dv t b = -(bO t b):=by unfold dv;rw[if_pos hb]
  rw[hd] at e
  by_cases hl:0<cm t b
  ·exact hl
  ·have:0<=cm t b * -(bO t b):=by
    have:=Int.mul_nonneg_of_nonpos_of_nonpos (a:=cm t b) (b:=-(bO t b)) (by omega) (by omega);exact this
   omega
 ·have hd:dv t b=bO t b:=by unfold dv;rw[if_neg hb]
  rw[hd] at e
  by_cases hl:0<cm t b
  ·exact hl
  ·have:cm t b*bO t b<=0:=Int.mul_nonpos_of_nonpos_of_nonneg (by omega) (by omega);omega
theorem mB {t:Int}:(dv t b).natAbs=Int.gcd t b:=by
 unfold dv bO
 split <;> simp
theorem ua {t:Int}(h:b≠0):Int.gcd (de t b) (cm t b)=1:=by
 have e1:=pJ (t:=t) h;have e2:=jP (t:=t) h;have g:0<Int.gcd t b:=Int.gcd_pos_of_ne_zero_right _ h;have e3:Int.gcd (de t b*dv t b) (cm t b*dv t b)=Int.gcd (de t b) (cm t b)*(dv t b).natAbs:=Int.gcd_mul_right ..;rw[e1,e2,mB] at e3
 have:Int.gcd (de t b) (cm t b)*Int.gcd t b=1*Int.gcd t b:=by omega
 exact Nat.eq_of_mul_eq_mul_right g this
theorem jA {t t' b':Int}(h:b≠0)(hp:0<b')(hg:Int.gcd t' b'=1)(he:t*b'=t'*b):de t b=t'/\cm t b=b':=by
 have e1:=pJ (t:=t) h;have e2:=jP (t:=t) h;have g:=lZ (t:=t) h;have lp:=nt (t:=t) h;have lg:=ua (t:=t) h
 have e3:de t b*b'=t'*cm t b:=by
  have z:(de t b*b')*dv t b=(t'*cm t b)*dv t b:=by
   rw[Int.mul_right_comm,e1,he,Int.mul_assoc,e2]
  exact Int.eq_of_mul_eq_mul_right g z
 have n3:(de t b).natAbs*b'.natAbs=t'.natAbs*(cm t b).natAbs:=by
  have:=congrArg Int.natAbs e3;rw[Int.natAbs_mul,Int.natAbs_mul] at this;exact this
 have c1:Nat.Coprime (cm t b).natAbs (de t b).natAbs:=by
  rw[Nat.coprime_comm];exact lg
 have c2:Nat.Coprime b'.natAbs t'.natAbs:=by
  rw[Nat.coprime_comm];exact hg
 have d1:(cm t b).natAbs ∣ b'.natAbs:=c1.dvd_of_dvd_mul_left ⟨t'.natAbs,by rw[n3,Nat.mul_comm]⟩;have d2:b'.natAbs ∣ (cm t b).natAbs:=c2.dvd_of_dvd_mul_left ⟨(de t b).natAbs,by rw[<-n3,Nat.mul_comm]⟩;have e4:(cm t b).natAbs=b'.natAbs:=Nat.dvd_antisymm d1 d2
 have e5:cm t b=b':=by omega
 refine⟨?_,e5⟩;rw[e5] at e3;exact Int.eq_of_mul_eq_mul_right (by omega) e3
theorem oQ {t b:Int}(hp:0<b)(hg:Int.gcd t b=1):de t b=t/\cm t b=b:=jA (by omega) hp hg rfl
theorem kh (a b:Int):Int.gcd b (a.fmod b)=Int.gcd a b:=by
 rw[Int.fmod_def,Int.gcd_comm a b]
 first
  |exact Int.gcd_sub_mul_left_right ..
  |simp
theorem tj (a b:Int)(h:b≠0):(a.fmod b).natAbs<b.natAbs:=by
 by_cases hb:0<b
 ·have h1:=Int.fmod_lt_of_pos a hb;have h2:=Int.fmod_nonneg_of_pos a hb;omega
 ·have e:a.fmod b = -((-a).fmod (-b)):=by
   have:=Int.fmod_def a b;rw[Int.neg_fmod_neg];omega
  have h1:=Int.fmod_lt_of_pos (-a) (b:=-b) (by omega);have h2:=Int.fmod_nonneg_of_pos (-a) (b:=-b) (by omega);omega
noncomputable def sg (b:Int):Int:=if b<0 then -1 else 1
noncomputable def ab (b:Int):Int:=if b<0 then -b else b
theorem jR (b:Int):ab b=(b.natAbs:Int):=by unfold ab;split <;> omega
theorem Dw {t:Int}(h:b≠0):(sg b*t).fdiv (bO t b)=de t b:=by
 have g:=dh (t:=t) h;have e:=pJ (t:=t) h
 have z:sg b*t=de t b*bO t b:=by
  unfold sg dv at *
  split
  ·rename_i hb
   rw[if_pos hb] at e
   have:de t b * -bO t b = -(de t b*bO t b):=by rw[Int.mul_neg]
   omega
  ·rename_i hb
   rw[if_neg hb] at e;omega
 rw[z,Int.mul_fdiv_cancel _ (by omega)]
theorem C9 {t:Int}(h:b≠0):(ab b).fdiv (bO t b)=cm t b:=by
 have g:=dh (t:=t) h;have e:=jP (t:=t) h
 have z:ab b=cm t b*bO t b:=by
  unfold ab dv at *
  split
  ·rename_i hb
   rw[if_pos hb] at e
   have:cm t b * -bO t b = -(cm t b*bO t b):=by rw[Int.mul_neg]
   omega
  ·rename_i hb
   rw[if_neg hb] at e;omega
 rw[z,Int.mul_fdiv_cancel _ (by omega)]
theorem Bw (a b:Int):Int.gcd (ab a) (ab b)=Int.gcd a b:=by
 rw[jR,jR];simp[Int.gcd]
noncomputable def B (n:Nat)(i:Int):Prop:=i.natAbs<2^n
variable {n:Nat}{i:Int}
theorem B.mono {m:Nat}(h:B n i)(hn:n<=m):B m i:=Nat.lt_of_lt_of_le h (Nat.pow_le_pow_right (by decide) hn)
variable {j:Int}
theorem B.mul {m:Nat}(h:B n i)(k:B m j):B (n+m) (i*j):=by
 unfold B at *;rw[Int.natAbs_mul,Nat.pow_add];exact Nat.mul_lt_mul'' h k
theorem B.add (h:B n i)(k:B n j):B (n+1) (i+j):=by
 unfold B at *;rw[Nat.pow_succ];have:=Int.natAbs_add_le i j;omega
theorem B.le (h:B n i)(k:j.natAbs<=i.natAbs):B n j:=Nat.lt_of_le_of_lt k h
theorem rj {x d y:Int}(e:x*d=y)(hd:d≠0):x.natAbs<=y.natAbs:=by
 have:x.natAbs*d.natAbs=y.natAbs:=by rw[<-Int.natAbs_mul,e]
 have h1:1<=d.natAbs:=by omega
 calc x.natAbs=x.natAbs*1:=(Nat.mul_one _).symm
  _<=x.natAbs*d.natAbs:=Nat.mul_le_mul_left _ h1
  _=y.natAbs:=this
theorem sy {t:Int}(h:b≠0):(de t b).natAbs<=t.natAbs:=rj (pJ h) (lZ h)
theorem tW {t:Int}(h:b≠0):(cm t b).natAbs<=b.natAbs:=rj (jP h) (lZ h)
theorem Az {t:Int}(h:b≠0):(dv t b).natAbs<=b.natAbs:=by
 have e:=jP (t:=t) h;have lp:=nt (t:=t) h;exact rj (x:=dv t b) (d:=cm t b) (by rw[Int.mul_comm];exact e) (by omega)
theorem vP {t:Int}(h:b≠0):(bO t b).natAbs<=b.natAbs:=by
 have e:=Az (t:=t) h;rw[mB] at e;unfold bO;simpa using e
structure Num (p t b:Int):Prop where
 pos:0<b
 red:Int.gcd t b=1
 pr:p≠0->b=1/\0<=t/\t<p
variable {p:Int}
theorem Num.ofP {t:Int}(h0:0<=t)(h1:t<p):Num p t 1:=⟨by decide,by simp,λ_=>⟨rfl,h0,h1⟩⟩
theorem Num.low {t:Int}(h:b≠0):Num 0 (de t b) (cm t b):=⟨nt h,ua h,λz=>absurd rfl z⟩
noncomputable def dG (p t b:Int):Int:=if p=0 then de t b else t%p
noncomputable def eE (p t b:Int):Int:=if p=0 then cm t b else 1
theorem Num.set {t:Int}(hp:0<=p)(h:b≠0):Num p (dG p t b) (eE p t b):=by
 unfold dG eE
 by_cases z:p=0
 ·subst z;simp only[if_true];exact Num.low h
 ·simp only[z,if_false];exact Num.ofP (Int.emod_nonneg _ z) (Int.emod_lt_of_pos _ (by omega))
theorem Num.self {t:Int}(n:Num p t b)(hp:0<=p):dG p t b=t/\eE p t b=b:=by
 unfold dG eE
 by_cases z:p=0
 ·simp only[z,if_true];exact oQ n.pos n.red
 ·simp only[z,if_false];obtain⟨h1,h2,h3⟩:=n.pr z;exact⟨Int.emod_eq_of_lt h2 h3,h1.symm⟩
theorem BE {p t t' b':Int}(h:b≠0)(n:Num p t' b')(hp:0<=p)(e0:p=0->t*b'=t'*b)(e1:p≠0->t%p=t'%p):dG p t b=t'/\eE p t b=b':=by
 unfold dG eE
 by_cases z:p=0
 ·simp only[z,if_true];exact jA h n.pos n.red (e0 z)
 ·simp only[z,if_false];obtain⟨h1,h2,h3⟩:=n.pr z;exact⟨by rw[e1 z];exact Int.emod_eq_of_lt h2 h3,h1.symm⟩
end Nm
namespace L2
open PySem PySem.Spec PyProof.Rows PySem.W
variable {i:Int}
theorem AN (h:Nm.B 9000 i):i.natAbs.log2<9000:=by
 by_cases z:i.natAbs=0
 ·rw[z];decide
 ·exact(Nat.log2_lt z).mpr h
theorem xI (h:Nm.B 9000 i):Builtin.Int.intBits i<=2^20:=by
 have l:=AN h;unfold Builtin.Int.intBits
 split
 ·exact Nat.zero_le _
 ·have:(9000:Nat)<=2^20:=by decide
  omega
section
variable {X:Cx}
theorem cT:fu X (binaryOp .FloorDiv) (rI (λ_ j=>j≠0/\Nm.B 9000 j) λi j=>.int (i.fdiv j)):=BQ λ_ _ _ _ _ _ _ hc q=>floordiv_int hc.1 q (.inl (PyProof.noPylong_of_log2 (AN hc.2)))
theorem cz:fu X (binaryOp .Mult) (rI (λi j=>Nm.B 9000 i/\Nm.B 9000 j) λi j=>.int (i*j)):=BQ λ_ _ _ _ _ _ _ hc q=>mul_int q (IntMulOk.of_bits (xI hc.1) (xI hc.2))
end
noncomputable def A4:Expr->Option Int
 | .Constant (.int i) _ _=>some i
 |_=>none
theorem zR {e:Expr}(h:A4 e=some i):∃k p,e = .Constant (.int i) k p:=by
 unfold A4 at h
 split at h
 ·cases h
  exact⟨_,_,rfl⟩
 ·cases h
noncomputable def uu:List Expr->Option (List Int)
 |[]=>some []
 |e::es=>(A4 e).bind λi=>(uu es).map (i :: ·)
noncomputable def DA (ns:List Int):TA:=λ_ H Q=>Q (ns.map V.int) H
theorem tQ {X:Cx}:∀{es:Bo}{ns:List Int},uu es=some ns->PA X es (DA ns)
 |[],ns,h=>by
  cases h
  exact ah
 |x::es,ns,h=>by
  unfold uu at h;obtain⟨i,hi,h⟩:=Option.bind_eq_some_iff.mp h;obtain⟨ms,e,rfl⟩:=Option.map_eq_some_iff.mp h;obtain⟨k,p,rfl⟩:=zR hi;exact aq (ak (j:=k) (pos:=p)) (tQ e)
noncomputable def CY (ns:List Int):TE:=λ_ H Q=>∀p,H p=none->Q (.ref p) (upd H p (.lst (ns.map V.int)))
theorem nG {X:Cx}{es:Bo}{pos:Pos}{ns:List Int}(h:uu es=some ns)(hl:ns.length<=1000):PE X (.List es pos) (CY ns):=by
 intro pins s σ H Q I q;refine cD (tQ h) pins s σ H Q I ?_;refine⟨?_,q⟩;rw[List.length_map];exact Nat.le_of_lt (uC hl)
end L2
namespace K24
open PySem L2 PySem.W Nm
noncomputable abbrev C5:Stmt:=(aV 23)
noncomputable abbrev uq:Stmt:=(aV 24)
noncomputable abbrev pB:Stmt:=(aV 26)
noncomputable def bE (t b:Int):HO:=.tup [.int t,.int b]
noncomputable def Cw:Sp:=λvs H Q _=>∃a b:Int,vs=[.int a,.int b]/\Q (.int (bO a b)) H
noncomputable def p0:Sp:=λvs H Q _=>∃t b:Int,vs=[.int t,.int b]/\b≠0/\B 9000 b/\∀p,H p=none->Q (.ref p) (upd H p (bE (de t b) (cm t b)))
noncomputable def jJ:Sp:=λvs H Q _=>∃m p:Int,vs=[.int m,.int p]/\p∈yV/\m%p≠0/\∀v,0<=v->v<p->(v*m)%p=1->Q (.int v) H
variable {p:Int}
theorem gk (h:p∈yV):2<=p/\p<=97:=by
 have:∀q∈yV,2<=q/\q<=97:=by decide
 exact this p h
theorem u5 {r:Int}(h:p∈yV)(h0:0<r)(h1:r<p):Int.gcd p r=1:=by
 have key:∀q∈yV,∀k:_root_.Fin 98,0<k.val->((k.val:Nat):Int)<q->Int.gcd q ((k.val:Nat):Int)=1:=by decide +kernel
 have hp:=gk h;have z:=key p h ⟨r.toNat,by omega⟩
 have e:((r.toNat:Nat):Int)=r:=by omega
 simp only[e] at z;exact z (by omega) h1
variable {P:vQ}{w:World}{K:PySem.W.Frag}{mg:FA}{base:Heap}
theorem AM:uZ uE uE (ao C5):=d8 (by decide +kernel)
variable {f:Addr}{fd:ET}
theorem BK (F:uB K "common_divisor" "common_divisor" C5 f fd)(mA:mg "abs"=none):Bu P w K mg base (aS P w) 1 f fd uE Cw:=by
 refine F.okN AM (λvs H Q E h=>?_) (λFJ A outer s H vs Q E hr h=>?_)
 ·obtain⟨a,b,rfl,_⟩:=h;rfl
 ·obtain⟨a,b,rfl,q⟩:=h
  refine⟨_,aj (jW PassesOwn.never (qh (pv 1) (λ_=>rfl)) (ar (iQ (i:=0) (j:=1) rfl AM.nd rfl rfl (by decide) rfl rfl (aq (pv 1) (aq (aD nj (pv 0) (pv 1)) ah)) rfl)))
   (ar (aB (aF hZ (by rfl) mA (by rfl) (aq (pv 0) ah)))),?_⟩
  refine⟨λm σ H'=>∃c d:Int,σ=[some (.int c),some (.int d)]/\H'=H/\m=d.natAbs/\Int.gcd c d=Int.gcd a b,⟨_,a,b,rfl,rfl,rfl,rfl⟩,?_⟩;rintro m σ H' ⟨c,d,rfl,rfl,rfl,hg⟩;refine⟨_,rfl,_,rfl,?_⟩;refine cG (λh=>?_) (λh=>?_)
  ·have hd:d≠0:=by simpa using h
   refine⟨λσ' HB=>∃c' d':Int,σ'=[some (.int c'),some (.int d')]/\HB=H'/\d'.natAbs<d.natAbs/\Int.gcd c' d'=Int.gcd a b,λσ' HB ⟨c',d',e1,e2,e3,e4⟩=>⟨_,e3,c',d',e1,e2,rfl,e4⟩,?_⟩;refine⟨_,rfl,_,rfl,_,rfl,_,_,rfl,rfl,hd,_,_,rfl,d,c.fmod d,rfl,rfl,tj c d hd,?_⟩;rw[kh,hg]
  ·have hd:d=0:=by simpa using h
   subst hd;refine⟨_,rfl,c,rfl,?_⟩
   have e:(if c<0 then -c else c)=bO a b:=by
    unfold bO;rw[<-hg];have:=jR c;unfold ab at this;rw[this];simp
   rw[e];exact q
theorem kX:uZ ["top","bottom","divisor"] Eo (ao uq):=d8 (by decide +kernel)
theorem uI {fg:Addr}{Iz:ET}(F:uB K "lowest" "lowest" uq f fd)(FG:Bu P w K mg base (aS P w) 1 fg Iz uE Cw)(bG:L2.aA K Iz uE [])(mG:mg "common_divisor"=some (.ref fg))(kG:keepIn K (.ref fg)=true):
 Bu P w K mg base (aS P w) 2 f fd Eo p0:=by
 refine F.okN kX (λvs H Q E h=>?_) (λFJ A outer s H vs Q E hr h=>?_)
 ·obtain⟨a,b,rfl,_⟩:=h;rfl
 ·obtain⟨t,b,rfl,hb,hB,q⟩:=h
  refine⟨_,aj (bg (aN dC (pv 1) ak (aM _)) (ar (aB (bx (aq (pv 0) (aq ak ah))))) aJ)
   (aj (aK (i:=2) kX.nd rfl (Or.inl rfl) (ax FG hr (by rfl) mG kG bG .nil ag (aq (pv 0) (aq (pv 1) ah))))
   (aj (bg (aN kQ (pv 1) ak (aM _)) (ar (aK (i:=2) kX.nd rfl (Or.inl rfl) (AD yz (pv 2)))) aJ)
   (ar (aB (bx (aq (aD cT (pv 0) (pv 2)) (aq (aD cT (pv 1) (pv 2)) ah))))))),?_⟩
  refine⟨_,rfl,rfl,_,rfl,?_⟩;refine cG (λh=>?_) (λh=>?_)
  ·have e:b=1:=by simpa using h
   subst e;have z:=oQ (t:=t) (b:=1) (by decide) (by simp);refine⟨_,rfl,BJ,λp hp=>?_⟩;have y:=q p hp;rw[z.1,z.2] at y;exact y
  ·refine⟨_,rfl,_,rfl,t,b,rfl,?_⟩;refine⟨_,rfl,_,_,rfl,rfl,_,rfl,?_⟩;have gp:=dh (t:=t) hb
   have fin:∀d:Int,d=dv t b->CS (eC (qP (rI (λ_ j=>j≠0/\Nm.B 9000 j) λi j=>V.int (i.fdiv j)) (fH 0) (fH 2)) (eC (qP (rI (λ_ j=>j≠0/\Nm.B 9000 j) λi j=>V.int (i.fdiv j)) (fH 1) (fH 2)) E1)) [some (.int t),some (.int b),some (.int d)] H Q:=by
    intro d hd
    have O6:d≠0:=by rw[hd];exact lZ hb
    have T6:B 9000 d:=by rw[hd];exact hB.le (Az hb)
    refine⟨_,rfl,_,rfl,_,_,rfl,rfl,⟨O6,T6⟩,_,rfl,_,rfl,_,_,rfl,rfl,⟨O6,T6⟩,BJ,λp hp=>?_⟩;have y:=q p hp;unfold de cm at y;rw[<-hd] at y;exact y
   refine cG (λh2=>?_) (λh2=>?_)
   ·have e:b<0:=by simpa using h2
    exact⟨_,rfl,_,rfl,fin _ (by unfold dv;rw[if_pos e])⟩
   ·have e:¬b<0:=by simpa using h2
    exact fin _ (by unfold dv;rw[if_neg e])
structure Eu (m p r s l ls:Int):Prop where
 r0:0<r
 rl:r<l
 lp:l<=p
 g:Int.gcd l r=1
 e1:∃k,s*m-r=p*k
 e2:∃k,ls*m-l=p*k
variable {l:Int}
theorem Eu.step {m r s ls:Int}(h:Eu m p r s l ls)(h1:r≠1):Eu m p (l-l.fdiv r*r) (ls-l.fdiv r*s) r s/\(l-l.fdiv r*r).toNat<r.toNat:=by
 obtain⟨r0,rl,lp,g,⟨k1,e1⟩,⟨k2,e2⟩⟩:=h
 have em:l-l.fdiv r*r=l.fmod r:=by rw[Int.fmod_def,Int.mul_comm]
 have a:=Int.fmod_lt_of_pos l r0;have b:=Int.fmod_nonneg_of_pos l r0
 have gg:Int.gcd r (l.fmod r)=1:=by rw[kh,g]
 have nz:l.fmod r≠0:=by
  intro z;rw[z] at gg;simp at gg;omega
 rw[em];refine⟨⟨by omega,a,by omega,gg,⟨k2-l.fdiv r*k1,?_⟩,⟨k1,e1⟩⟩,by omega⟩;rw[<-em];generalize l.fdiv r=q
 have:(ls-q*s)*m-(l-q*r)=(ls*m-l)-q*(s*m-r):=by
  rw[Int.sub_mul,Int.mul_sub,Int.mul_assoc];omega
 rw[this,e1,e2,Int.mul_sub,Int.mul_left_comm]
theorem Eu.fin {m s ls:Int}(h:Eu m p 1 s l ls)(hp:2<=p):0<=s%p/\s%p<p/\(s%p*m)%p=1:=by
 obtain⟨_,_,_,_,⟨k1,e1⟩,_⟩:=h;refine⟨Int.emod_nonneg _ (by omega),Int.emod_lt_of_pos _ (by omega),?_⟩
 have e:s*m=p*k1+1:=by omega
 rw[Int.mul_emod,Int.emod_emod,<-Int.mul_emod,e,Int.mul_add_emod_self_left];exact Int.emod_eq_of_lt (by omega) (by omega)
noncomputable abbrev NI:List Str:=["number","prime","rest","share","last","last_share","many"]
theorem dB:uZ NI ES (ao pB):=d8 (by decide +kernel)
theorem rV (F:uB K "inverse" "inverse" pB f fd):Bu P w K mg base (aS P w) 1 f fd ES jJ:=by
 refine F.okN dB (λvs H Q E h=>?_) (λFJ A outer s H vs Q E hr h=>?_)
 ·obtain⟨a,b,rfl,_⟩:=h;rfl
 ·obtain⟨m,p,rfl,hp,hm,q⟩:=h;have Mc:=gk hp
  refine⟨_,aj (iQ (i:=2) (j:=3) rfl dB.nd rfl rfl (by decide) rfl rfl (aq (aD cL (pv 0) (pv 1)) (aq ak ah)) rfl)
   (aj (iQ (i:=4) (j:=5) rfl dB.nd rfl rfl (by decide) rfl rfl (aq (pv 1) (aq ak ah)) rfl)
   (aj (jW PassesOwn.never (aN hV (pv 2) ak (aM _))
    (aj (aK (i:=6) dB.nd rfl (Or.inl rfl) (aD cT (pv 4) (pv 2)))
    (aj (iQ (i:=4) (j:=2) rfl dB.nd rfl rfl (by decide) rfl rfl (aq (pv 2) (aq (aD lr (pv 4) (aD c8 (pv 6) (pv 2))) ah)) rfl)
    (ar (iQ (i:=5) (j:=3) rfl dB.nd rfl rfl (by decide) rfl rfl (aq (pv 3) (aq (aD lr (pv 5) (aD c8 (pv 6) (pv 3))) ah)) rfl)))))
   (ar (aB (aD cL (pv 3) (pv 1)))))),?_⟩
  refine⟨_,rfl,_,rfl,_,_,rfl,rfl,(by show(0:Int)<p;omega),_,_,rfl,?_⟩;refine⟨_,rfl,_,_,rfl,?_⟩;have r0:0<=m%p:=Int.emod_nonneg _ (by omega);have r1:m%p<p:=Int.emod_lt_of_pos _ (by omega)
  have E0:Eu m p (m%p) 1 p 0:=by
   refine⟨by omega,r1,Int.le_refl _,u5 hp (by omega) r1,⟨m/p,?_⟩,⟨-1,by omega⟩⟩;have:=Int.emod_add_mul_ediv m p;omega
  refine⟨λn σ H'=>∃(r s l ls:Int)(o:Option V),σ=[some (.int m),some (.int p),some (.int r),some (.int s),some (.int l),some (.int ls),o]/\H'=H/\n=r.toNat/\Eu m p r s l ls,⟨_,_,_,_,_,_,rfl,rfl,rfl,E0⟩,?_⟩;rintro n σ H' ⟨r,s,l,ls,o,rfl,rfl,rfl,E⟩;refine⟨_,rfl,rfl,_,rfl,?_⟩;refine cG (λh=>?_) (λh=>?_)
  ·have FY:r≠1:=by simpa using h
   obtain⟨E',lt⟩:=E.step FY;have e0:=E.r0;have e1:=E.rl;have e2:=E.lp;have q0:0<=l.fdiv r:=Int.fdiv_nonneg (by omega) (by omega)
   have q1:l.fdiv r<=l:=by
    rw[Int.fdiv_eq_ediv_of_nonneg _ (by omega)];exact Int.ediv_le_self _ (by omega)
   refine⟨λσ' HB=>∃(r' s' l' O7:Int)(o:Option V),σ'=[some (.int m),some (.int p),some (.int r'),some (.int s'),some (.int l'),some (.int O7),o]/\HB=H'/\r'.toNat<r.toNat/\Eu m p r' s' l' O7,λσ' HB ⟨r',s',l',O7,o',z1,z2,z3,z4⟩=>⟨_,z3,r',s',l',O7,o',z1,z2,rfl,z4⟩,?_⟩;refine⟨_,rfl,_,rfl,_,_,rfl,rfl,⟨by omega,?_⟩,?_⟩
   ·have:r.natAbs<2^7:=by omega
    exact(show B 7 r from this).mono (by decide)
   ·refine⟨_,rfl,_,rfl,_,rfl,_,rfl,_,_,rfl,rfl,.inl ⟨by omega,by omega⟩,_,_,rfl,rfl,_,_,rfl,?_⟩;refine⟨_,rfl,_,rfl,_,rfl,_,rfl,_,_,rfl,rfl,.inl ⟨by omega,by omega⟩,_,_,rfl,rfl,_,_,rfl,?_⟩;exact⟨_,_,_,_,_,rfl,rfl,lt,E'⟩
  ·have FY:r=1:=by simpa using h
   subst FY;obtain⟨f0,f1,f2⟩:=E.fin Mc.1;exact⟨_,rfl,_,rfl,_,_,rfl,rfl,(by show(0:Int)<p;omega),q _ f0 f1 f2⟩
noncomputable abbrev wz:Stmt:=(aV 13)
noncomputable abbrev xc:Stmt:=br (aV 27) 0
inductive Th (H:Hp):V->String->Prop where
 |non:Th H .non "NoneType"
 |bl (b:Bool):Th H (.bl b) "bool"
 |int (i:Int):Th H (.int i) "int"
 |str (x:Str):Th H (.str x) "str"
 |lst {a:Addr}{xs:List V}(e:H a=some (.lst xs)):Th H (.ref a) "list"
 |tup {a:Addr}{xs:List V}(e:H a=some (.tup xs)):Th H (.ref a) "tuple"
 |dK {a:Addr}{FF:List (Key×V)}(e:H a=some (.dK FF)):Th H (.ref a) "dict"
variable {K:Frag}{H:Hp}{x:V}{T:String}
theorem Th.ty (h:Th H x T):vB K H x (.type T):=by
 cases h with
 |non=>exact .of .non
 |bl b=>exact .of (.bl b)
 |int i=>exact .of (.int i)
 |str x=>exact .of (.str x)
 |lst e=>exact .of (.lst e)
 |tup e=>exact .of (.tup e)
 |dK e=>exact .of (.dK e)
noncomputable def c5:V->Bool
 | .int _=>true
 |_=>false
noncomputable def Dq:V->Bool
 | .int _=>true
 | .bl _=>true
 |_=>false
theorem Th.isInt (h:Th H x T):kitOne K (.type T) (.type "int")=some (Dq x):=by cases h <;> rfl
theorem Th.isBool (h:Th H x T)(hi:Dq x=true):kitOne K (.type T) (.type "bool")=some (!c5 x):=by
 cases h with
 |int i=>rfl
 |bl b=>rfl
 |_=>cases hi
noncomputable def u7:Sp:=λvs H Q _=>∃x T,vs=[x]/\Th H x T/\Q (.bl (c5 x)) H
structure Dj (mg:FA):Prop where
 isi:mg "isinstance"=none
 int:mg "int"=none
 bool:mg "bool"=none
theorem yX:uZ oX oX (ao wz):=d8 (by decide +kernel)
theorem wV (F:uB K "is_whole" "is_whole" wz f fd)(n:Dj mg):Bu P w K mg base (aS P w) 1 f fd oX u7:=by
 refine F.okN yX (λvs H Q E h=>?_) (λFJ A outer s H vs Q E hr h=>?_)
 ·obtain⟨x,T,rfl,_⟩:=h;rfl
 ·obtain⟨x,T,rfl,th,q⟩:=h
  refine⟨_,ar (aB (fZ (aF bq (by rfl) n.isi (by rfl) (aW (pv 0) (aW (du (by rfl) n.int (by rfl) (show aC (.ty "int") (.type "int") from rfl)) ah)))
   (iM (aaJ (aF bq (by rfl) n.isi (by rfl) (aW (pv 0) (aW (du (by rfl) n.bool (by rfl) (show aC (.ty "bool") (.type "bool") from rfl)) ah))))))),?_⟩
  refine⟨_,rfl,x,.ty "int",_,_,_,rfl,rfl,th.ty,th.isInt,_,rfl,?_⟩;refine cG (λhi=>?_) (λhi=>?_)
  ·refine⟨_,rfl,x,.ty "bool",_,_,_,rfl,rfl,th.ty,th.isBool hi,_,rfl,?_⟩;simpa using q
  ·have e:c5 x=false:=by
    cases th <;> first|rfl|exact absurd rfl hi
   rw[e] at q;exact q
noncomputable def i6 (i:Int):Bool:=i==0 || yV.any λp=>p==i
noncomputable def good:V->Bool
 | .int i=>i6 i
 |_=>false
noncomputable def gZ (i:Int):List (Str×V):=[("its_prime",.int i)]
noncomputable def rn (C NF:Addr):Sp:=λvs H Q E=>∃(p dx:Addr)(x:V)(T:String),vs=[.ref p,x]/\Th H x T/\H p=some (.ins C dx [])/\(good x=true->Q .non (upd H p (.ins C dx [("its_prime",x)])))/\(good x=false->E (.ref NF) none H)
structure B5 (K:Frag)(mg:FA)(C:Addr):Prop where
 cl:wm K C
 nP:cu K C "its_prime"
 mgC:mg "Field"=some (.ref C)
 isC:((clsIn K C).isSome&&typeIn K (.ref C)==some (.type "type"))=true
 ca:findIn K (.ref C) "__class__"=some (some (.builtin "object.__class__"))
 sp:specialIn K (.builtin "object.__class__") "__get__"=some (some (.builtin "getset_descriptor.__get__"))
 tk:takesIn K (.builtin "object.__class__")=some true
 ob:mroIn K C (.type "object")=some true
theorem kd (i:Int):CI (.int i) (yV.map V.int)=yV.any λp=>p==i:=by
 unfold CI;rw[List.any_map];rfl
theorem A2:uZ BV BV (ao xc):=d8 (by decide +kernel)
variable {C:Addr}{tF:Tok}
theorem zZ {fw NF aP T:Addr}{Hl:ET}(F:Ec K "__init__" "Field.__init__" xc f fd T)(c:B5 K mg C)(FW:Bu P w K mg base (aS P w) 1 fw Hl oX u7)(bW:aA K Hl oX [])(mW:mg "is_whole"=some (.ref fw))(kW:keepIn K (.ref fw)=true)
 (mF:mg "FRACTIONS"=some (.int 0 tF))(mP:mg "PRIMES"=some (.ref aP))(hP:∀H:Hp,bf K H aP (yV.map V.int))(mN:mg "NoField"=some (.ref NF))(qN:nA K NF AL qB=true):Bu P w K mg base (aS P w) 2 f fd BV (rn C NF):=by
 refine F.okE A2 (λvs H Q E h=>?_) (λFJ A outer s H vs Q E hr h=>?_)
 ·obtain⟨p,dx,x,T,rfl,_⟩:=h;rfl
 ·obtain⟨p,dx,x,T,rfl,th,hp,hq,hE⟩:=h
  refine⟨_,aj (bg (PW.pt (iA (cp (cq (ax FW hr (by rfl) mW kW bW .nil ag (aW (pv 1) ah))))
   (fe (PW.pt (aa6 (aN hV (pv 1) (cR (by rfl) mF (show aC (.int 0) (.int 0 tF) from⟨_,rfl⟩)) (aM _)) (aa5 (aN nk (pv 1) (cR (by rfl) mP (show aC (.ref aP) (.ref aP) from rfl)) (by rfl))))))))
   (ar (gf PySem.F.excBase_ValueError qN rfl dH (by rfl) mN (aW c7 ah))) aJ)
   (ar (rF (pv 0) (pv 1) rfl)),?_⟩
  have fin:good x=true->∃(a C' T7:Addr)(fs:List (Str×V)),V.ref p=.ref a/\H a=some (.ins C' T7 fs)/\wm K C'/\cu K C' "its_prime"/\fs.length<1000/\Q .non (upd H a (.ins C' T7 (dJ "its_prime" x fs))):=λg=>⟨p,C,dx,[],rfl,hp,c.cl,c.nP,by decide,hq g⟩;refine⟨_,rfl,x,T,rfl,th,_,rfl,?_⟩
  cases th with
  |int i =>
   refine b8 ?_;refine⟨_,rfl,rfl,_,rfl,?_⟩;refine cG (λh0=>?_) (λh0=>?_)
   ·refine⟨_,rfl,aP,_,rfl,.inr (hP _),rfl,rfl,_,rfl,?_⟩;refine cG (λh1=>?_) (λh1=>?_)
    ·refine⟨by decide,hE ?_⟩
     have e1:¬i=0:=by simpa using h0
     have e2:CI (.int i) (yV.map V.int)=false:=by simpa using h1
     rw[kd] at e2;show i6 i=false;unfold i6;rw[e2];simpa using e1
    ·have e2:CI (.int i) (yV.map V.int)=true:=by simpa using h1
     rw[kd] at e2;exact⟨_,rfl,_,rfl,fin (by show i6 i=true;unfold i6;rw[e2];simp)⟩
   ·have e1:i=0:=by simpa using h0
    exact b8 ⟨_,rfl,_,rfl,fin (by show i6 i=true;rw[e1];rfl)⟩
  |_=>exact cb (cb ⟨by decide,hE rfl⟩)
noncomputable abbrev AO:Stmt:=br (aV 27) 5
noncomputable abbrev AS:Stmt:=br (aV 27) 6
noncomputable abbrev pO:Stmt:=br (aV 27) 10
noncomputable def FP (p:Int):Prop:=p=0\/p∈yV
theorem FP.nn (h:FP p):0<=p:=by
 rcases h with h|h
 ·omega
 ·have:=gk h;omega
theorem FP.two (h:FP p)(z:p≠0):p∈yV/\2<=p/\p<=97:=by
 rcases h with h|h
 ·exact absurd h z
 ·exact⟨h,gk h⟩
noncomputable def rZ (C NN:Addr):Sp:=λvs H Q E=>∃(s dx:Addr)(p t b:Int),vs=[.ref s,.int t,.int b]/\H s=some (.ins C dx (gZ p))/\FP p/\B 9000 b /\
 (p=0->b=0->E (.ref NN) none H)/\(p=0->b≠0->∀a,H a=none->Q (.ref a) (upd H a (bE (de t b) (cm t b)))) /\
 (p≠0->b%p=0->E (.ref NN) none H)/\(p≠0->b%p≠0->∀v,0<=v->v<p->(v*b)%p=1->∀a,H a=none->Q (.ref a) (upd H a (bE (t*v%p) 1)))
noncomputable def mf (C:Addr):Sp:=λvs H Q _=>∃(s dx:Addr)(p t b:Int),vs=[.ref s,.int t,.int b]/\H s=some (.ins C dx (gZ p))/\FP p/\B 9000 b/\b≠0/\∀a,H a=none->Q (.ref a) (upd H a (bE (dG p t b) (eE p t b)))
noncomputable def AB (C:Addr)(g:Int->Int->Int->Int->Int):Sp:=λvs H Q _=>∃(s dx a1 a2:Addr)(p t1 b1 t2 b2:Int),vs=[.ref s,.ref a1,.ref a2]/\H s=some (.ins C dx (gZ p))/\FP p/\H a1=some (bE t1 b1)/\H a2=some (bE t2 b2) /\
 B 4000 t1/\B 4000 b1/\B 4000 t2/\B 4000 b2/\b1≠0/\b2≠0/\∀a,H a=none->Q (.ref a) (upd H a (bE (dG p (g t1 b1 t2 b2) (b1*b2)) (eE p (g t1 b1 t2 b2) (b1*b2))))
noncomputable def i5 (t1 b1 t2 b2:Int):Int:=t1*b2+t2*b1
noncomputable def jB (t1 b1 t2 b2:Int):Int:=t1*t2
theorem Bt:uZ ER ER (ao AO):=d8 (by decide +kernel)
variable {fl:Addr}{GW:ET}
theorem Ad {NN fv:Addr}{T8:ET}(F:uB K "quotient" "Field.quotient" AO f fd)(c:B5 K mg C)(mF:mg "FRACTIONS"=some (.int 0 tF))(mN:mg "NoNumber"=some (.ref NN))(qN:nA K NN AL qB=true)
 (FL:Bu P w K mg base (aS P w) 2 fl GW Eo p0)(bL:L2.aA K GW Eo [])(mL:mg "lowest"=some (.ref fl))(kL:keepIn K (.ref fl)=true)
 (FV:Bu P w K mg base (aS P w) 1 fv T8 ES jJ)(bV:L2.aA K T8 ES [])(mV:mg "inverse"=some (.ref fv))(kV:keepIn K (.ref fv)=true):
 Bu P w K mg base (aS P w) 3 f fd ER (rZ C NN):=by
 refine F.okE Bt (λvs H Q E h=>?_) (λFJ A outer s H vs Q E hr h=>?_)
 ·obtain⟨s,dx,p,t,b,rfl,_⟩:=h;rfl
 ·obtain⟨s,dx,p,t,b,rfl,hs,hp,hB,q1,q2,q3,q4⟩:=h;have FY:om 1 _:=hr.mono (by decide)
  refine⟨_,aj (bg (aN dC (dX (pv 0) rfl) (cR (by rfl) mF (show aC (.int 0) (.int 0 tF) from⟨_,rfl⟩)) (aM _))
   (aj (bg (aN dC (pv 2) ak (aM _)) (ar (gf PySem.F.excBase_ValueError qN rfl dH (by rfl) mN (aq c7 ah))) aJ)
   (ar (aB (ax FL hr (by rfl) mL kL bL .nil ag (aq (pv 1) (aq (pv 2) ah)))))) aJ)
   (aj (bg (aN dC (aD cL (pv 2) (dX (pv 0) rfl)) ak (aM _)) (ar (gf PySem.F.excBase_ValueError qN rfl dH (by rfl) mN (aq c7 ah))) aJ)
   (ar (aB (bx (aq (aD cL (aD c8 (pv 1) (ax FV FY (by rfl) mV kV bV .nil ag (aq (pv 2) (aq (dX (pv 0) rfl) ah)))) (dX (pv 0) rfl)) (aq ak ah)))))),?_⟩
  refine⟨_,rfl,s,C,dx,_,_,rfl,hs,c.cl,c.nP,rfl,rfl,_,rfl,?_⟩;refine cG (λh=>?_) (λh=>?_)
  ·have Gh:p=0:=by simpa using h
   refine⟨_,rfl,rfl,_,rfl,?_⟩;refine cG (λh2=>?_) (λh2=>?_)
   ·have hb:b=0:=by simpa using h2
    exact⟨by decide,q1 Gh hb⟩
   ·have hb:b≠0:=by simpa using h2
    exact⟨_,rfl,_,rfl,t,b,rfl,hb,hB,q2 Gh hb⟩
  ·have Gh:p≠0:=by simpa using h
   obtain⟨IA,p2,O8⟩:=hp.two Gh;refine⟨_,rfl,_,rfl,s,C,dx,_,_,rfl,hs,c.cl,c.nP,rfl,_,_,rfl,rfl,(by show(0:Int)<p;omega),rfl,_,rfl,?_⟩;refine cG (λh2=>?_) (λh2=>?_)
   ·have hb:b%p=0:=by simpa using h2
    exact⟨by decide,q3 Gh hb⟩
   ·have hb:b%p≠0:=by simpa using h2
    refine⟨_,rfl,_,rfl,_,rfl,s,C,dx,_,_,rfl,hs,c.cl,c.nP,rfl,b,p,rfl,IA,hb,λv v0 v1 v2=>?_⟩;refine⟨_,_,rfl,rfl,.inr ⟨by omega,by omega⟩,_,rfl,s,C,dx,_,_,rfl,hs,c.cl,c.nP,rfl,_,_,rfl,rfl,(by show(0:Int)<p;omega),BJ,λa ha=>q4 Gh hb v v0 v1 v2 a ha⟩
theorem vq:uZ ER ER (ao pO):=d8 (by decide +kernel)
theorem qG (F:uB K "settled" "Field.settled" pO f fd)(c:B5 K mg C)(mF:mg "FRACTIONS"=some (.int 0 tF))
 (FL:Bu P w K mg base (aS P w) 2 fl GW Eo p0)(bL:L2.aA K GW Eo [])(mL:mg "lowest"=some (.ref fl))(kL:keepIn K (.ref fl)=true):
 Bu P w K mg base (aS P w) 3 f fd ER (mf C):=by
 refine F.okN vq (λvs H Q E h=>?_) (λFJ A outer s H vs Q E hr h=>?_)
 ·obtain⟨s,dx,p,t,b,rfl,_⟩:=h;rfl
 ·obtain⟨s,dx,p,t,b,rfl,hs,hp,hB,hb,q⟩:=h
  refine⟨_,aj (bg (aN dC (dX (pv 0) rfl) (cR (by rfl) mF (show aC (.int 0) (.int 0 tF) from⟨_,rfl⟩)) (aM _))
   (ar (aB (ax FL hr (by rfl) mL kL bL .nil ag (aq (pv 1) (aq (pv 2) ah))))) aJ)
   (ar (aB (bx (aq (aD cL (pv 1) (dX (pv 0) rfl)) (aq ak ah))))),?_⟩
  refine⟨_,rfl,s,C,dx,_,_,rfl,hs,c.cl,c.nP,rfl,rfl,_,rfl,?_⟩;refine cG (λh=>?_) (λh=>?_)
  ·have Gh:p=0:=by simpa using h
   refine⟨_,rfl,_,rfl,t,b,rfl,hb,hB,λa ha=>?_⟩;have y:=q a ha;unfold dG eE at y;rw[if_pos Gh,if_pos Gh] at y;exact y
  ·have Gh:p≠0:=by simpa using h
   obtain⟨IA,p2,O8⟩:=hp.two Gh;refine⟨_,rfl,_,rfl,s,C,dx,_,_,rfl,hs,c.cl,c.nP,rfl,_,_,rfl,rfl,(by show(0:Int)<p;omega),BJ,λa ha=>?_⟩;have y:=q a ha;unfold dG eE at y;rw[if_neg Gh,if_neg Gh] at y;exact y
theorem a0 (x y:V):vp [x,y] 0=some x:=rfl
theorem a1 (x y:V):vp [x,y] 1=some y:=rfl
theorem BL:uZ yk yk (ao AS):=d8 (by decide +kernel)
variable {b:Int}
theorem se {a:Int}(h:a≠0)(k:b≠0):a*b≠0:=Int.mul_ne_zero h k
theorem y6 {fs:Addr}{JS:ET}(F:uB K "plus" "Field.plus" AS f fd)(c:B5 K mg C)(FS:Bu P w K mg base (aS P w) 3 fs JS ER (mf C))(bS:L2.aA K JS ER [])(mS:L2.Meth K C "settled" fs):
 Bu P w K mg base (aS P w) 4 f fd yk (AB C i5):=by
 refine F.okN BL (λvs H Q E h=>?_) (λFJ A outer s H vs Q E hr h=>?_)
 ·obtain⟨s,dx,a1,a2,p,t1,b1,t2,b2,rfl,_⟩:=h;rfl
 ·obtain⟨s,dx,x1,x2,p,t1,b1,t2,b2,rfl,hs,hp,h1,h2,B1,B2,B3,B4,n1,n2,q⟩:=h;refine⟨_,ar (aB (il (pv 0) c.cl mS FS hr bS .nil ag (aq (aD dt (aD cz (aX bw (pv 1) ak (λ_ _=>rfl)) (aX bw (pv 2) ak (λ_ _=>rfl))) (aD cz (aX bw (pv 2) ak (λ_ _=>rfl)) (aX bw (pv 1) ak (λ_ _=>rfl)))) (aq (aD cz (aX bw (pv 1) ak (λ_ _=>rfl)) (aX bw (pv 2) ak (λ_ _=>rfl))) ah)))),?_⟩;refine⟨_,rfl,s,dx,_,rfl,hs,rfl,?_⟩;refine⟨_,rfl,x1,_,0,_,rfl,rfl,bf.of h1,a0 _ _,_,rfl,x2,_,1,_,rfl,rfl,bf.of h2,a1 _ _,_,_,rfl,rfl,⟨B1.mono (by decide),B4.mono (by decide)⟩,?_⟩;refine⟨_,rfl,x2,_,0,_,rfl,rfl,bf.of h2,a0 _ _,_,rfl,x1,_,1,_,rfl,rfl,bf.of h1,a1 _ _,_,_,rfl,rfl,⟨B3.mono (by decide),B2.mono (by decide)⟩,_,_,rfl,rfl,?_⟩;refine⟨_,rfl,x1,_,1,_,rfl,rfl,bf.of h1,a1 _ _,_,rfl,x2,_,1,_,rfl,rfl,bf.of h2,a1 _ _,_,_,rfl,rfl,⟨B2.mono (by decide),B4.mono (by decide)⟩,?_⟩;exact⟨s,dx,p,_,_,rfl,hs,hp,(B2.mul B4).mono (by decide),se n1 n2,q⟩
noncomputable abbrev Aw:Stmt:=(aV 49)
noncomputable abbrev A0:Stmt:=(aV 50)
noncomputable abbrev AW:Stmt:=(aV 51)
noncomputable abbrev AJ:Stmt:=(aV 52)
noncomputable abbrev xw:Stmt:=(aV 53)
theorem au {a:Addr}{o:HO}(h:H a=none):ay H (upd H a o):=λb u e=>by rw[ai (av e h)];exact e
noncomputable def xS (K:PySem.W.Frag):Sp:=λvs H Q _=>∃(a:Addr)(ns:List Int)(k:Int),vs=[.ref a,.int k]/\aY K H a (ns.map V.int)/\ns.length<=63/\0<=k/\k<=63 /\
 ∀(p:Addr)(l r:Int),H p=none->0<=r->r<2147483647->Q (.ref p) (upd H p (.lst [.int l,.int r]))
noncomputable def zy:Sp:=λvs H Q _=>∃(p:Addr)(l r m:Int),vs=[.ref p,.int m]/\H p=some (.lst [.int l,.int r])/\0<=r/\r<2147483647/\0<m/\m<18446744073709551616 /\
 ∀(z l' r':Int),0<=z->z<m->0<=r'->r'<2147483647->Q (.int z) (upd H p (.lst [.int l',.int r']))
variable {Q:VK}
theorem iD {k c:Int}{x:Option V}(Je:0<=k)(Mw:k<=63)(q:∀(p:Addr)(l r:Int),H p=none->0<=r->r<2147483647->Q (.ref p) (upd H p (.lst [.int l,.int r]))):
 Dl (eC (fH 3) (eC (qP (rI (λ_ j=>0<j) λi j=>.int (i%j)) (qP (rI uP λi j=>.int (i*j)) (qP (v3 λi j=>.int (i+j)) (qP (v3 λi j=>.int (i+j)) (qP (rI (λ_ j=>0<j) λi j=>.int (i%j)) (fH 2) (tC (.int 2147483629)))
  (qP (rI uP λi j=>.int (i*j)) (qP (rI uP λi j=>.int (i*j)) (tC (.int 104729)) (fH 1)) (fH 1))) (tC (.int 7))) (tC (.int 48271))) (tC (.int 2147483647))) E1)) [x,some (.int k),some (.int c),some (.int l)] H Q:=by
 have h1:(0:Int)<=104729*k:=by omega
 have h2:104729*k<=6597927:=by omega
 refine⟨_,rfl,_,rfl,_,_,rfl,rfl,(by show(0:Int)<2147483629;decide),_,rfl,_,_,rfl,rfl,.inl ⟨by decide,by decide⟩,_,rfl,_,_,rfl,rfl,.inl ⟨by omega,by omega⟩,_,_,rfl,rfl,_,_,rfl,rfl,_,_,rfl,rfl,.inr ⟨by decide,by decide⟩,_,_,rfl,rfl,(by show(0:Int)<2147483647;decide),BJ,λp hp=>?_⟩;exact q p _ _ hp (Int.emod_nonneg _ (by decide)) (Int.emod_lt_of_pos _ (by decide))
theorem kE:uZ ["_law_script","_law_k","_law_cell","_law_left"] vG (ao Aw):=d8 (by decide +kernel)
theorem zf (F:uB K "_law_room" "_law_room" Aw f fd)(hlen:mg "len"=none):Bu P w K mg base (aS P w) 1 f fd vG (xS K):=by
 refine F.okN kE (λvs H Q E h=>?_) (λFJ A outer s H vs Q E hr h=>?_)
 ·obtain⟨a,ns,k,rfl,_⟩:=h;rfl
 ·obtain⟨a,ns,k,rfl,hS,hn,Je,Mw,q⟩:=h
  refine⟨_,aj (aK (i:=2) kE.nd rfl (Or.inl rfl) ak)
   (aj (bg (aN kQ (pv 1) (aF bU (by rfl) hlen PySem.boot_len (aW (pv 0) ah)) (aM _))
    (ar (aK (i:=2) kE.nd rfl (Or.inl rfl) (aX bM (pv 0) (pv 1) (λ_ _=>rfl)))) aJ)
   (aj (aK (i:=3) kE.nd rfl (Or.inl rfl) ak)
   (aj (bg (aN AF (pv 2) (aD iP ak ak) (aM _)) (ar (aK (i:=3) kE.nd rfl (Or.inl rfl) (pv 2))) aJ)
   (ar (aB (cD (aW (pv 3) (aW
    (aD cL (aD c8 (aD dt (aD dt (aD cL (pv 2) ak) (aD c8 (aD c8 ak (pv 1)) (pv 1))) ak) ak) ak) ah)))))))),?_⟩
  refine⟨_,rfl,_,rfl,a,_,rfl,.inl hS,_,_,rfl,rfl,_,rfl,?_⟩;refine cG (λh=>?_) (λh=>?_)
  ·have FO:k.toNat<ns.length:=by
    have h1:=of_decide_eq_true h;rw[List.length_map] at h1;omega
   obtain⟨c,hc⟩:∃c,vp (ns.map V.int) k=some (V.int c):=by
    refine⟨ns[k.toNat],?_⟩
    have e:((k.toNat:Nat):Int)=k:=by omega
    have z:=t6 (xs:=ns.map V.int) (j:=k.toNat) (v:=V.int ns[k.toNat]) (by rw[List.getElem?_map];simp[FO]);rw[e] at z;exact z
   refine⟨_,rfl,_,rfl,a,_,k,_,rfl,rfl,hS,hc,?_⟩;refine⟨_,rfl,_,_,rfl,rfl,⟨by decide,by decide,by decide⟩,_,_,rfl,rfl,_,rfl,?_⟩;refine cG (λh2=>?_) (λh2=>?_)
   ·exact⟨_,rfl,iD Je Mw q⟩
   ·exact iD Je Mw q
  ·refine⟨_,rfl,_,_,rfl,rfl,⟨by decide,by decide,by decide⟩,_,_,rfl,rfl,_,rfl,?_⟩;refine cG (λh2=>?_) (λh2=>?_)
   ·exact⟨_,rfl,iD Je Mw q⟩
   ·exact iD Je Mw q
theorem nZ:uZ ["_law_room_here","_law_many","_law_found"] Ft (ao A0):=d8 (by decide +kernel)
theorem zz (F:uB K "_law_take" "_law_take" A0 f fd):Bu P w K mg base (aS P w) 1 f fd Ft zy:=by
 refine F.okN nZ (λvs H Q E h=>?_) (λFJ A outer s H vs Q E hr h=>?_)
 ·obtain⟨p,l,r,m,rfl,_⟩:=h;rfl
 ·obtain⟨p,l,r,m,rfl,hp,O9,FY,LM,hm1,q⟩:=h
  refine⟨_,aj (bg (aN wU (aX bM (pv 0) ak (λ_ _=>rfl)) ak (aM _))
   (aj (aK (i:=2) nZ.nd rfl (Or.inl rfl) (aD cL (aX bM (pv 0) ak (λ_ _=>rfl)) (pv 1)))
   (aj (oq (aD cT (aX bM (pv 0) ak (λ_ _=>rfl)) (pv 1)) (sh (pv 0) ak j8))
   (ar (aB (pv 2))))) aJ)
   (aj (oq (aD cL (aD dt (aD c8 (aX bM (pv 0) ak (λ_ _=>rfl)) ak) ak) ak) (sh (pv 0) ak j8))
   (aj (aK (i:=2) nZ.nd rfl (Or.inl rfl) (aD acb (aD cL (aD c8 (aX bM (pv 0) ak (λ_ _=>rfl)) (aX bM (pv 0) ak (λ_ _=>rfl))) ak) ak))
   (aj (bg (aN wU (pv 1) (aD iP ak ak) (aM _))
    (aj (oq (aD cL (aD dt (aD c8 (aX bM (pv 0) ak (λ_ _=>rfl)) ak) ak) ak) (sh (pv 0) ak j8))
    (ar (aK (i:=2) nZ.nd rfl (Or.inl rfl) (aD dt (aD c8 (pv 2) ak) (aD cL (aD c8 (aX bM (pv 0) ak (λ_ _=>rfl)) (aX bM (pv 0) ak (λ_ _=>rfl))) ak))))) aJ)
   (ar (aB (aD cL (pv 2) (pv 1))))))),?_⟩
  have i0:∀x y:V,vp [x,y] 0=some x:=λ_ _=>rfl;have i1:∀x y:V,vp [x,y] 1=some y:=λ_ _=>rfl;have n0:zt [V.int l,V.int r].length 0=some 0:=rfl;have n1:∀x y:V,zt [x,y].length 1=some 1:=λ_ _=>rfl;refine⟨_,rfl,p,_,0,_,rfl,rfl,aY.of hp,i0 _ _,_,_,rfl,rfl,_,rfl,?_⟩;refine cG (λh=>?_) (λh=>?_)
  ·refine⟨_,rfl,p,_,0,_,rfl,rfl,aY.of hp,i0 _ _,_,rfl,_,_,rfl,rfl,LM,?_⟩;refine⟨_,rfl,p,_,0,_,rfl,rfl,aY.of hp,i0 _ _,_,rfl,_,_,rfl,rfl,⟨by omega,(show B 64 m from(by show m.natAbs<2^64;omega)).mono (by decide)⟩,_,rfl,p,_,0,0,rfl,rfl,hp,n0,?_⟩;exact⟨_,rfl,q _ _ _ (Int.emod_nonneg _ (by omega)) (Int.emod_lt_of_pos _ LM) O9 FY⟩
  ·have e1:∀t:Int,0<=t%2147483647/\t%2147483647<2147483647:=λt=>⟨Int.emod_nonneg _ (by decide),Int.emod_lt_of_pos _ (by decide)⟩;refine⟨_,rfl,p,_,1,_,rfl,rfl,aY.of hp,i1 _ _,_,_,rfl,rfl,.inl ⟨by omega,by omega⟩,_,_,rfl,rfl,_,_,rfl,rfl,(by show(0:Int)<2147483647;decide),_,rfl,p,_,1,1,rfl,rfl,hp,n1 _ _,?_⟩;refine⟨_,rfl,p,_,1,_,rfl,rfl,aY.of ae,i1 _ _,_,rfl,p,_,1,_,rfl,rfl,aY.of ae,i1 _ _,_,_,rfl,rfl,.inl ⟨by omega,by omega⟩,_,_,rfl,rfl,(by show(0:Int)<2147483629;decide),_,_,rfl,rfl,⟨by decide,by decide⟩,?_⟩;refine⟨_,rfl,_,_,rfl,rfl,⟨by decide,by decide,by decide⟩,_,_,rfl,rfl,_,rfl,?_⟩;refine cG (λh2=>?_) (λh2=>?_)
   ·refine⟨_,rfl,p,_,1,_,rfl,rfl,aY.of ae,i1 _ _,_,_,rfl,rfl,.inl ⟨by omega,by omega⟩,_,_,rfl,rfl,_,_,rfl,rfl,(by show(0:Int)<2147483647;decide),_,rfl,p,_,1,1,rfl,rfl,ae,n1 _ _,?_⟩;rw[sv];refine⟨_,rfl,_,_,rfl,rfl,.inr ⟨by decide,by decide⟩,_,rfl,p,_,1,_,rfl,rfl,aY.of ae,i1 _ _,_,rfl,p,_,1,_,rfl,rfl,aY.of ae,i1 _ _,_,_,rfl,rfl,.inl ⟨by omega,by omega⟩,_,_,rfl,rfl,(by show(0:Int)<2147483587;decide),_,_,rfl,rfl,?_⟩;exact⟨_,rfl,_,rfl,_,_,rfl,rfl,LM,q _ _ _ (Int.emod_nonneg _ (by omega)) (Int.emod_lt_of_pos _ LM) (e1 _).1 (e1 _).2⟩
   ·exact⟨_,rfl,_,rfl,_,_,rfl,rfl,LM,q _ _ _ (Int.emod_nonneg _ (by omega)) (Int.emod_lt_of_pos _ LM) (e1 _).1 (e1 _).2⟩
noncomputable def Bl (H:Hp)(Q:VK)(t b:Int):Prop:=∀(H':Hp)(a:Addr),ay H H'->H' a=some (bE t b)->Q (.ref a) H'
theorem Bl.of {H':Hp}{t:Int}(q:Bl H Q t b)(S:ay H H'):∀a,H' a=none->Q (.ref a) (upd H' a (bE t b)):=λa ha=>q _ a (S.trans (au ha)) ae
noncomputable def va:Sp:=λvs H Q _=>∃t b:Int,vs=[.int t,.int b]/\b≠0/\B 9000 b/\B 9000 t/\Bl H Q (de t b) (cm t b)
noncomputable def El:Sp:=λvs H Q _=>∃p t b:Int,vs=[.int p,.int t,.int b]/\FP p/\b≠0/\B 9000 b/\B 9000 t/\(p≠0->b=1)/\Bl H Q (dG p t b) (eE p t b)
noncomputable def kO (g:Int->Int->Int->Int->Int):Sp:=λvs H Q _=>∃(p t1 b1 t2 b2:Int)(a1 a2:Addr),vs=[.int p,.ref a1,.ref a2]/\FP p/\H a1=some (bE t1 b1)/\H a2=some (bE t2 b2)/\B 4000 t1/\B 4000 b1/\B 4000 t2/\B 4000 b2/\b1≠0/\b2≠0/\(p≠0->b1*b2=1) /\
 Bl H Q (dG p (g t1 b1 t2 b2) (b1*b2)) (eE p (g t1 b1 t2 b2) (b1*b2))
noncomputable abbrev Eg:List Str:=["_law_top","_law_base","_law_one","_law_other","_law_sign"]
theorem jH:uZ Eg yY (ao AW):=d8 (by decide +kernel)
theorem AG (c:Int):(if c<0 then -c else c)=ab c:=rfl
theorem zV (F:uB K "_law_lowest" "_law_lowest" AW f fd)(mA:mg "abs"=none)(mI:mg "int"=none):Bu P w K mg base (aS P w) 1 f fd yY va:=by
 refine F.okN jH (λvs H Q E h=>?_) (λFJ A outer s H vs Q E hr h=>?_)
 ·obtain⟨a,b,rfl,_⟩:=h;rfl
 ·obtain⟨t,b,rfl,hb,hB,hT,q⟩:=h
  refine⟨_,aj (aK (i:=2) jH.nd rfl (Or.inl rfl) (aF hZ (by rfl) mA (by rfl) (aq (pv 0) ah)))
   (aj (aK (i:=3) jH.nd rfl (Or.inl rfl) (aF hZ (by rfl) mA (by rfl) (aq (pv 1) ah)))
   (aj (jW PassesOwn.never (aN hV (pv 3) ak (aM _)) (ar (iQ (i:=2) (j:=3) rfl jH.nd rfl rfl (by decide) rfl rfl (aq (pv 3) (aq (aD nj (pv 2) (pv 3)) ah)) rfl)))
   (aj (aK (i:=4) jH.nd rfl (Or.inl rfl) (aX bM (cD (aq ak (aq (AD yz ak) ah))) (eN ng (by rfl) mI (by rfl) (aq (cP kQ (pv 1) ak (aM _)) ah)) (λ_ _=>rfl)))
   (ar (aB (bx (aq (aD cT (aD c8 (pv 4) (pv 0)) (pv 2)) (aq (aD cT (aF hZ (by rfl) mA (by rfl) (aq (pv 1) ah)) (pv 2)) ah)))))))),?_⟩
  refine⟨_,rfl,t,rfl,_,rfl,b,rfl,?_⟩;rw[AG,AG];refine⟨λm σ H'=>∃c d:Int,σ=[some (.int t),some (.int b),some (.int c),some (.int d),none]/\H'=H/\m=d.natAbs/\Int.gcd c d=Int.gcd t b/\0<=c/\0<=d,⟨_,ab t,ab b,rfl,rfl,rfl,Bw t b,by rw[jR];omega,by rw[jR];omega⟩,?_⟩;rintro m σ H' ⟨c,d,rfl,rfl,rfl,hg,QE,O6⟩;refine⟨_,rfl,rfl,_,rfl,?_⟩;refine cG (λh=>?_) (λh=>?_)
  ·have hd:d≠0:=by simpa using h
   refine⟨λσ' HB=>∃c' d':Int,σ'=[some (.int t),some (.int b),some (.int c'),some (.int d'),none]/\HB=H'/\d'.natAbs<d.natAbs/\Int.gcd c' d'=Int.gcd t b/\0<=c'/\0<=d',λσ' HB ⟨c',d',e1,e2,e3,e4,e5,e6⟩=>⟨_,e3,c',d',e1,e2,rfl,e4,e5,e6⟩,?_⟩;refine⟨_,rfl,_,rfl,_,rfl,_,_,rfl,rfl,hd,_,_,rfl,d,c.fmod d,rfl,rfl,tj c d hd,by rw[kh,hg],O6,Int.fmod_nonneg_of_pos c (by omega)⟩
  ·have hd:d=0:=by simpa using h
   subst hd
   have eg:c=bO t b:=by
    unfold bO;rw[<-hg];simp;omega
   have gp:=dh (t:=t) hb;have T9:B 9000 (bO t b):=hB.le (vP hb);subst eg;refine⟨_,rfl,BJ,λz hz=>?_⟩;have S:=au (o:=.lst [V.int 1,V.int (-1)]) hz;refine⟨_,rfl,_,_,rfl,rfl,.inr ⟨_,rfl,?_⟩⟩
   have Jy:vp [V.int 1,V.int (-1)] (if decide (b<0)=true then 1 else 0)=some (.int (sg b)):=by
    unfold sg
    by_cases KZ:b<0
    ·simp[KZ];rfl
    ·simp[KZ];rfl
   refine⟨z,_,_,_,rfl,rfl,aY.of ae,Jy,?_⟩
   have sg1:-1<=sg b/\sg b<=1:=by unfold sg;split <;> decide
   refine⟨_,rfl,_,rfl,_,_,rfl,rfl,.inl ⟨by omega,by omega⟩,_,rfl,_,_,rfl,rfl,⟨by omega,T9⟩,_,rfl,b,rfl,_,rfl,_,_,rfl,rfl,⟨by omega,T9⟩,BJ,λa ha=>?_⟩;have y:=q.of S a ha;rw[<-Dw (t:=t) hb,<-C9 (t:=t) hb] at y;exact y
theorem Cs:uZ Cz Cz (ao AJ):=d8 (by decide +kernel)
theorem zq (F:uB K "_law_make" "_law_make" AJ f fd)(FL:Bu P w K mg base (aS P w) 1 fl GW yY va)(bL:L2.aA K GW yY [])(mL:mg "_law_lowest"=some (.ref fl))(kL:keepIn K (.ref fl)=true):
 Bu P w K mg base (aS P w) 2 f fd Cz El:=by
 refine F.okN Cs (λvs H Q E h=>?_) (λFJ A outer s H vs Q E hr h=>?_)
 ·obtain⟨p,t,b,rfl,_⟩:=h;rfl
 ·obtain⟨p,t,b,rfl,hp,hb,hB,hT,h1,q⟩:=h
  refine⟨_,aj (bg (aN dC (pv 0) ak (aM _)) (ar (aB (ax FL hr (by rfl) mL kL bL .nil ag (aq (pv 1) (aq (pv 2) ah))))) aJ)
   (aj (bg (aN hV (aD cL (pv 2) (pv 0)) ak (aM _)) abW aJ)
   (ar (aB (bx (aq (aD cL (pv 1) (pv 0)) (aq ak ah)))))),?_⟩
  refine⟨_,rfl,rfl,_,rfl,?_⟩;refine cG (λh=>?_) (λh=>?_)
  ·have Gh:p=0:=by simpa using h
   unfold dG eE at q;rw[if_pos Gh,if_pos Gh] at q;exact⟨_,rfl,_,rfl,t,b,rfl,hb,hB,hT,q⟩
  ·have Gh:p≠0:=by simpa using h
   obtain⟨IA,p2,O8⟩:=hp.two Gh;have Wr:=h1 Gh;subst Wr;refine⟨_,rfl,_,rfl,_,_,rfl,rfl,(by show(0:Int)<p;omega),rfl,_,rfl,?_⟩;have e1:(1:Int)%p=1:=Int.emod_eq_of_lt (by decide) (by omega);refine cG (λh=>absurd h (by simp[e1])) (λ_=>?_);unfold dG eE at q;rw[if_neg Gh,if_neg Gh] at q;exact⟨_,rfl,_,rfl,_,_,rfl,rfl,(by show(0:Int)<p;omega),BJ,q.of (ay.refl _)⟩
theorem Ak:uZ Es Es (ao xw):=d8 (by decide +kernel)
theorem xf (F:uB K "_law_plus" "_law_plus" xw f fd)(FL:Bu P w K mg base (aS P w) 2 fl GW Cz El)(bL:L2.aA K GW Cz [])(mL:mg "_law_make"=some (.ref fl))(kL:keepIn K (.ref fl)=true):
 Bu P w K mg base (aS P w) 3 f fd Es (kO i5):=by
 refine F.okN Ak (λvs H Q E h=>?_) (λFJ A outer s H vs Q E hr h=>?_)
 ·obtain⟨p,t1,b1,t2,b2,x1,x2,rfl,_⟩:=h;rfl
 ·obtain⟨p,t1,b1,t2,b2,x1,x2,rfl,hp,h1,h2,B1,B2,B3,B4,n1,n2,hb,q⟩:=h;refine⟨_,ar (aB (ax FL hr (by rfl) mL kL bL .nil ag (aq (pv 0) (aq (aD dt (aD cz (aX bw (pv 1) ak (λ_ _=>rfl)) (aX bw (pv 2) ak (λ_ _=>rfl))) (aD cz (aX bw (pv 2) ak (λ_ _=>rfl)) (aX bw (pv 1) ak (λ_ _=>rfl)))) (aq (aD cz (aX bw (pv 1) ak (λ_ _=>rfl)) (aX bw (pv 2) ak (λ_ _=>rfl))) ah))))),?_⟩;refine⟨_,rfl,?_⟩;refine⟨_,rfl,x1,_,0,_,rfl,rfl,bf.of h1,a0 _ _,_,rfl,x2,_,1,_,rfl,rfl,bf.of h2,a1 _ _,_,_,rfl,rfl,⟨B1.mono (by decide),B4.mono (by decide)⟩,?_⟩;refine⟨_,rfl,x2,_,0,_,rfl,rfl,bf.of h2,a0 _ _,_,rfl,x1,_,1,_,rfl,rfl,bf.of h1,a1 _ _,_,_,rfl,rfl,⟨B3.mono (by decide),B2.mono (by decide)⟩,_,_,rfl,rfl,?_⟩;refine⟨_,rfl,x1,_,1,_,rfl,rfl,bf.of h1,a1 _ _,_,rfl,x2,_,1,_,rfl,rfl,bf.of h2,a1 _ _,_,_,rfl,rfl,⟨B2.mono (by decide),B4.mono (by decide)⟩,?_⟩;exact⟨p,_,_,rfl,hp,se n1 n2,(B2.mul B4).mono (by decide),((B1.mul B4).add (B3.mul B2)).mono (by decide),hb,q⟩
noncomputable abbrev xA:Stmt:=(aV 55)
noncomputable abbrev tH:Stmt:=(aV 56)
noncomputable def aZ (H:Hp)(r:Addr):Prop:=∃l x:Int,H r=some (.lst [.int l,.int x])/\0<=x/\x<2147483647
noncomputable def SameBut (r:Addr)(H H':Hp):Prop:=∀b o,H b=some o->b≠r->H' b=some o
variable {r:Addr}
theorem SameBut.trans {H1 H2:Hp}(a:SameBut r H H1)(b:SameBut r H1 H2):SameBut r H H2:=λc o e n=>b c o (a c o e n) n
theorem SameBut.of {H1:Hp}(a:ay H H1):SameBut r H H1:=λc o e _=>a c o e
theorem SameBut.upd {o:HO}:SameBut r H (upd H r o):=λb u e n=>by rw[ai n];exact e
noncomputable def kx:Sp:=λvs H Q _=>∃r:Addr,vs=[.ref r]/\aZ H r/\∀(p:Int)(H':Hp),FP p->aZ H' r->SameBut r H H'->Q (.int p) H'
noncomputable def zr:Sp:=λvs H Q _=>∃(r:Addr)(p:Int),vs=[.ref r,.int p]/\FP p/\aZ H r/\∀(a:Addr)(t b:Int)(H':Hp),Num p t b->B 45 t->B 45 b->H' a=some (bE t b)->aZ H' r->SameBut r H H'->Q (.ref a) H'
theorem Da {a:Addr}{t:Int}(h:H a=some (bE t b)):aH K H (.tup [.int t,.int b]) (.ref a):=by
 unfold aH;refine⟨a,_,rfl,bf.of h,?_⟩;unfold bh;refine⟨_,_,rfl,by unfold aH;rfl,?_⟩;unfold bh;refine⟨_,_,rfl,by unfold aH;rfl,?_⟩;unfold bh;rfl
theorem EG (t b:Int):jn (.tup [.int t,.int b])=1:=by simp[jn,gL]
theorem EU (t b u d:Int):gH (.tup [.int t,.int b]) (.tup [.int u,.int d])=(t==u&&b==d):=by simp[gH,dI]
theorem jx {xs:List Int}{w:Int}(h0:0<=w)(h1:w<xs.length):∃x∈xs,vp (xs.map V.int) w=some (.int x):=by
 have hl:w.toNat<xs.length:=by omega
 refine⟨xs[w.toNat],List.getElem_mem hl,?_⟩;have z:=t6 (xs:=xs.map V.int) (j:=w.toNat) (v:=V.int xs[w.toNat]) (by rw[List.getElem?_map];simp[hl])
 have e:((w.toNat:Nat):Int)=w:=by omega
 rw[e] at z;exact z
theorem j4:uZ ["_law_room_here","_law_at","_law_some"] rE (ao xA):=d8 (by decide +kernel)
set_option maxHeartbeats 1000000 in
theorem uF {ft:Addr}{GA:ET}(F:uB K "_law_prime" "_law_prime" xA f fd)(FT:Bu P w K mg base (aS P w) 1 ft GA Ft zy)(bT:L2.aA K GA Ft [])(mT:mg "_law_take"=some (.ref ft))(kT:keepIn K (.ref ft)=true):
 Bu P w K mg base (aS P w) 2 f fd rE kx:=by
 refine F.okN j4 (λvs H Q E h=>?_) (λFJ A outer s H vs Q E hr h=>?_)
 ·obtain⟨r,rfl,_⟩:=h;rfl
 ·obtain⟨r,rfl,⟨l,x,hR,x0,x1⟩,q⟩:=h
  refine⟨_,aj (aK (i:=1) j4.nd rfl (Or.inl rfl) (ax FT hr (by rfl) mT kT bT .nil ag (aq (pv 0) (aq ak ah))))
   (aj (bg (aN dC (pv 1) ak (aM _))
    (@aj _ _ _ _ _ (@aK _ _ 2 _ _ _ _ j4.nd rfl (Or.inl rfl) (@nG _ _ _ [11,13,17,19,23,29,31,37,41,43,47,53,59,61,67,71,73,79,83,89] rfl (by decide)) rfl (Or.inl rfl))
    (ar (aB (aX bM (pv 2) (ax FT hr (by rfl) mT kT bT .nil ag (aq (pv 0) (aq ak ah))) (λ_ _=>rfl))))) aJ)
   (@ar _ _ _ (@aB _ _ _ _ (@aX _ _ _ _ _ _ _ bM (@nG _ _ _ [0,0,2,3,5,7,97,0] rfl (by decide)) (pv 1) (λ_ _=>rfl))))),?_⟩
  refine⟨_,rfl,r,l,x,9,rfl,hR,x0,x1,by decide,by decide,λz l2 r2 z0 z1 g0 g1=>?_⟩;refine⟨_,rfl,rfl,_,rfl,?_⟩;have K0:(upd H r (.lst [.int l2,.int r2])) r=some (.lst [.int l2,.int r2]):=ae;have S2:SameBut r H (upd H r (.lst [.int l2,.int r2])):=SameBut.upd;generalize (upd H r (.lst [.int l2,.int r2]))=H2 at K0 S2 |-;refine cG (λh=>?_) (λh=>?_)
  ·refine λm hm=>?_;have S3:=au (o:=.lst ([11,13,17,19,23,29,31,37,41,43,47,53,59,61,67,71,73,79,83,89].map V.int)) hm;have em:(upd H2 m (.lst ([11,13,17,19,23,29,31,37,41,43,47,53,59,61,67,71,73,79,83,89].map V.int))) m=some (.lst ([11,13,17,19,23,29,31,37,41,43,47,53,59,61,67,71,73,79,83,89].map V.int)):=ae;have JT:=S3 _ _ K0;refine⟨_,rfl,_,rfl,r,l2,r2,20,rfl,JT,g0,g1,by decide,by decide,λz' l3 r3 Ws Wt Wu My=>?_⟩;obtain⟨y,hy,Jy⟩:=jx (xs:=[11,13,17,19,23,29,31,37,41,43,47,53,59,61,67,71,73,79,83,89]) Ws Wt;have nm:m≠r:=i7 em JT (by intro z;cases z);refine⟨m,_,z',_,rfl,rfl,aY.of (by rw[ai nm];exact em),Jy,?_⟩
   have all:∀y∈([11,13,17,19,23,29,31,37,41,43,47,53,59,61,67,71,73,79,83,89]:List Int),y∈yV:=by decide
   exact q y _ (.inr (all y hy)) ⟨l3,r3,ae,Wu,My⟩ ((S2.trans (SameBut.of S3)).trans SameBut.upd)
  ·have hz:z<8:=by
    have:z≠8:=by simpa using h
    omega
   refine λm hm=>?_;have S3:=au (o:=.lst ([0,0,2,3,5,7,97,0].map V.int)) hm;have em:(upd H2 m (.lst ([0,0,2,3,5,7,97,0].map V.int))) m=some (.lst ([0,0,2,3,5,7,97,0].map V.int)):=ae;obtain⟨y,hy,Jy⟩:=jx (xs:=[0,0,2,3,5,7,97,0]) z0 hz;refine⟨_,rfl,m,_,z,_,rfl,rfl,aY.of em,Jy,?_⟩
   have all:∀y∈([0,0,2,3,5,7,97,0]:List Int),y=0\/y∈yV:=by decide
   exact q y _ (all y hy) ⟨l2,r2,S3 _ _ K0,g0,g1⟩ (S2.trans (SameBut.of S3))
theorem xE:uZ yi yi (ao tH):=d8 (by decide +kernel)
theorem tU {H H2:Hp}{t:Int}(q:∀(a:Addr)(t b:Int)(H':Hp),Num 0 t b->B 45 t->B 45 b->H' a=some (bE t b)->aZ H' r->SameBut r H H'->Q (.ref a) H')(hb:0<b)(hB:B 45 b)(hT:B 45 t)(hR:aZ H2 r)(S:SameBut r H H2):va [.int t,.int b] H2 Q λ_ _ _=>False:=by
 have KZ:b≠0:=by omega
 refine⟨t,b,rfl,KZ,hB.mono (by decide),hT.mono (by decide),λH' a S' e=>?_⟩;refine q a _ _ H' (Num.low KZ) (hT.le (sy KZ)) (hB.le (tW KZ)) e ?_ (S.trans (SameBut.of S'));obtain⟨l,x,h,z⟩:=hR;exact⟨l,x,S' _ _ h,z⟩
set_option maxHeartbeats 1000000 in
theorem uz {ft:Addr}{GA:ET}(F:uB K "_law_number" "_law_number" tH f fd)(FT:Bu P w K mg base (aS P w) 1 ft GA Ft zy)(bT:L2.aA K GA Ft [])(mT:mg "_law_take"=some (.ref ft))(kT:keepIn K (.ref ft)=true)
 (FL:Bu P w K mg base (aS P w) 1 fl GW yY va)(bL:L2.aA K GW yY [])(mL:mg "_law_lowest"=some (.ref fl))(kL:keepIn K (.ref fl)=true):
 Bu P w K mg base (aS P w) 2 f fd yi zr:=by
 refine F.okN xE (λvs H Q E h=>?_) (λFJ A outer s H vs Q E hr h=>?_)
 ·obtain⟨r,p,rfl,_⟩:=h;rfl
 ·obtain⟨r,p,rfl,hp,⟨l,x,hR,x0,x1⟩,q⟩:=h
  refine⟨_,aj (bg (aN wU (pv 1) ak (aM _)) (ar (aB (bx (aq (ax FT hr (by rfl) mT kT bT .nil ag (aq (pv 0) (aq (pv 1) ah))) (aq ak ah))))) aJ)
   (aj (bg (aN dC (ax FT hr (by rfl) mT kT bT .nil ag (aq (pv 0) (aq ak ah))) ak (aM _))
    (ar (aB (ax FL hr (by rfl) mL kL bL .nil ag
     (aq (aD lr (ax FT hr (by rfl) mT kT bT .nil ag (aq (pv 0) (@aq _ _ _ _ _ (@aD _ _ _ _ _ _ _ _ c8 ak (@aD _ _ _ _ _ _ _ _ iP ak ak)) ah rfl))) (@aD _ _ _ _ _ _ _ _ iP ak ak))
     (@aq _ _ _ _ _ (@aX _ _ _ _ _ _ _ bM (@cD _ _ _ _ (@aq _ _ _ _ _ ak (@aq _ _ _ _ _ ak (@aq _ _ _ _ _ (@aD _ _ _ _ _ _ _ _ iP ak ak) (@aq _ _ _ _ _ (@aD _ _ _ _ _ _ _ _ dt (@aD _ _ _ _ _ _ _ _ iP ak ak) ak) ah rfl) rfl) rfl) rfl))
       (ax FT hr (by rfl) mT kT bT .nil ag (aq (pv 0) (aq ak ah))) (λ_ _=>rfl)) ah rfl))))) aJ)
   (ar (aB (ax FL hr (by rfl) mL kL bL .nil ag
    (aq (aD lr (ax FT hr (by rfl) mT kT bT .nil ag (aq (pv 0) (aq ak ah))) ak)
    (@aq _ _ _ _ _ (@aX _ _ _ _ _ _ _ bM (@nG _ _ _ [1,1,2,3] rfl (by decide)) (ax FT hr (by rfl) mT kT bT .nil ag (aq (pv 0) (aq ak ah))) (λ_ _=>rfl)) ah rfl)))))),?_⟩
  refine⟨_,rfl,_,_,rfl,rfl,_,rfl,?_⟩;refine cG (λh=>?_) (λh=>?_)
  ·have Gh:0<p:=by simpa using h
   obtain⟨_,p2,O8⟩:=hp.two (by omega);refine⟨_,rfl,_,rfl,r,l,x,p,rfl,hR,x0,x1,Gh,by omega,λz l2 r2 z0 z1 g0 g1=>?_⟩;refine⟨BJ,λa ha=>?_⟩;have S:=au (o:=bE z 1) ha;refine q a z 1 _ (Num.ofP z0 z1) ?_ (by show(1:Int).natAbs<2^45;decide) ae ⟨l2,r2,S _ _ ae,g0,g1⟩ (SameBut.upd.trans (SameBut.of S));show z.natAbs<2^45;omega
  ·have Gh:p=0:=by
    have:=hp.nn
    have h':¬0<p:=by simpa using h
    omega
   subst Gh;refine⟨_,rfl,r,l,x,8,rfl,hR,x0,x1,by decide,by decide,λz l2 r2 z0 z1 g0 g1=>⟨rfl,_,rfl,?_⟩⟩;have K0:(upd H r (.lst [.int l2,.int r2])) r=some (.lst [.int l2,.int r2]):=ae;have S2:SameBut r H (upd H r (.lst [.int l2,.int r2])):=SameBut.upd;generalize (upd H r (.lst [.int l2,.int r2]))=H2 at K0 S2 |-;refine cG (λh=>?_) (λh=>?_)
   ·refine⟨_,rfl,_,_,rfl,rfl,⟨by decide,by decide,by decide⟩,_,_,rfl,rfl,.inl ⟨by decide,by decide⟩,r,l2,r2,_,rfl,K0,g0,g1,by decide,by decide,λy l3 r3 y0 y1 k0 k1=>?_⟩;refine⟨_,_,rfl,rfl,⟨by decide,by decide,by decide⟩,_,_,rfl,rfl,?_⟩;refine⟨_,_,rfl,rfl,⟨by decide,by decide,by decide⟩,_,_,rfl,rfl,⟨by decide,by decide,by decide⟩,_,_,rfl,rfl,Fd,λm hm=>?_⟩;have S3:SameBut r H2 (upd H2 r (.lst [.int l3,.int r3])):=SameBut.upd;have JT:(upd H2 r (.lst [.int l3,.int r3])) r=some (.lst [.int l3,.int r3]):=ae;generalize (upd H2 r (.lst [.int l3,.int r3]))=H3 at hm S3 JT |-;have S4:=au (o:=.lst ([1,7,10^(6:Int).toNat,10^(12:Int).toNat+39].map V.int)) hm;have em:(upd H3 m (.lst ([1,7,10^(6:Int).toNat,10^(12:Int).toNat+39].map V.int))) m=some (.lst ([1,7,10^(6:Int).toNat,10^(12:Int).toNat+39].map V.int)):=ae;have Mz:=S4 _ _ JT;refine⟨_,rfl,r,l3,r3,4,rfl,Mz,k0,k1,by decide,by decide,λv l4 r4 v0 v1 j0 j1=>?_⟩;have nm:m≠r:=i7 em Mz (by intro z;cases z);obtain⟨b,hb,Jy⟩:=jx (xs:=[1,7,10^(6:Int).toNat,10^(12:Int).toNat+39]) v0 v1;refine⟨m,_,v,_,rfl,rfl,aY.of (by rw[ai nm];exact em),Jy,?_⟩
    have bb:∀b∈([1,7,10^(6:Int).toNat,10^(12:Int).toNat+39]:List Int),0<b/\b.natAbs<2^45:=by decide
    obtain⟨b0,bB⟩:=bb b hb;refine tU (H:=H) q b0 bB ?_ ⟨l4,r4,ae,j0,j1⟩ (((S2.trans S3).trans (SameBut.of S4)).trans SameBut.upd)
    have e1:(2:Int)*10^(12:Int).toNat=2000000000000:=by decide
    have e2:(10:Int)^(12:Int).toNat=1000000000000:=by decide
    rw[e1] at y1;show(y-10^(12:Int).toNat).natAbs<2^45;rw[e2];omega
   ·refine⟨_,rfl,r,l2,r2,19,rfl,K0,g0,g1,by decide,by decide,λy l3 r3 y0 y1 k0 k1=>?_⟩;refine⟨_,_,rfl,rfl,λm hm=>?_⟩;have S3:SameBut r H2 (upd H2 r (.lst [.int l3,.int r3])):=SameBut.upd;have JT:(upd H2 r (.lst [.int l3,.int r3])) r=some (.lst [.int l3,.int r3]):=ae;generalize (upd H2 r (.lst [.int l3,.int r3]))=H3 at hm S3 JT |-;have S4:=au (o:=.lst ([1,1,2,3].map V.int)) hm;have em:(upd H3 m (.lst ([1,1,2,3].map V.int))) m=some (.lst ([1,1,2,3].map V.int)):=ae;have Mz:=S4 _ _ JT;refine⟨_,rfl,r,l3,r3,4,rfl,Mz,k0,k1,by decide,by decide,λv l4 r4 v0 v1 j0 j1=>?_⟩;have nm:m≠r:=i7 em Mz (by intro z;cases z);obtain⟨b,hb,Jy⟩:=jx (xs:=[1,1,2,3]) v0 v1;refine⟨m,_,v,_,rfl,rfl,aY.of (by rw[ai nm];exact em),Jy,?_⟩
    have bb:∀b∈([1,1,2,3]:List Int),0<b/\b.natAbs<2^45:=by decide
    obtain⟨b0,bB⟩:=bb b hb;refine tU (H:=H) q b0 bB ?_ ⟨l4,r4,ae,j0,j1⟩ (((S2.trans S3).trans (SameBut.of S4)).trans SameBut.upd);show(y-9).natAbs<2^45;omega
end K24
namespace L2
open PySem PySem.Spec PyProof.Rows PySem.W
section
variable {X:Cx}{CX:AP}{k:Nat}{f:Addr}{fd:ET}{ps:wk}{sp:Sp}{x:Str}{p pos:Pos}{e:Expr}{es:Bo}{t:TA}{js:List Nat}{ys:wk}
noncomputable def rq (v:V)(o:Obj):Prop:=∃u,aC v u/\o.data=.cell (some u)
noncomputable def yI (cs:List Addr)(js:List Nat)(sp:Sp)(t:TA):TE:=λσ H Q=>t σ H λvs H1=>∃ws:List V,js.map (λj=>σ[j]?)=ws.map (λw=>some (some w)) /\
 ∀os:List Obj,Paired rq ws os->(∀c∈cs,H1 c=none)->sp vs (dm (cs.zip os) H1) (λr H'=>e9 (cs.zip os) H'/\Q r (eW (cs.zip os) H')) λ_ _ _=>False
theorem mO {pins:List (Addr×Obj)}{σ:St}{H:Hp}{s:Fp}(I:Inv X pins σ H s):∀(ys:wk)(js:List Nat)(ws:List V),js.map (λj=>X.N[j]?)=ys.map some->js.map (λj=>σ[j]?)=ws.map (λw=>some (some w)) →
 (∀y∈ys,X.env.kindOf y=some .cell)->(∀y∈ys,X.fn y=true)->∃os:List Obj,Paired rq ws os/\∀q∈(ys.map (iy X)).zip os,H q.1=none/\s.heap.get? q.1=some q.2/\q.1∉cW X.stack/\X.s₀.heap.objs.size<=q.1
 |[],js,ws,h1,h2,_,_=>by
  cases js with
  |cons j js=>simp at h1
  |nil =>
   cases ws with
   |cons w ws=>simp at h2
   |nil=>exact⟨[],.nil,λq hq=>by simp at hq⟩
 |y::ys,js,ws,h1,h2,hc,hf=>by
  cases js with
  |nil=>simp at h1
  |cons j js =>
   cases ws with
   |nil=>simp at h2
   |cons w ws =>
    rw[List.map_cons,List.map_cons] at h1 h2;have hy:=(List.cons.inj h1).1;have ev:=(List.cons.inj h2).1;obtain⟨os,r,g⟩:=mO I ys js ws (List.cons.inj h1).2 (List.cons.inj h2).2 (λz hz=>hc z (List.mem_cons_of_mem _ hz)) λz hz=>hf z (List.mem_cons_of_mem _ hz);have Ua:=hc y List.mem_cons_self;obtain⟨m,hn,hl⟩:=I.loc;obtain⟨u,rv,l⟩:=hl j y w hy ev (.inr (.inl Ua))
    rcases l with⟨k1,_⟩|⟨_,c,ec,o,ho,hd⟩
    ·rw[Ua] at k1;cases k1
    ·have LN:iy X y=c:=by unfold iy;rw[ec];rfl
     have fc:H c=none:=I.aaz y c ec;have cab:=I.ok.cab y c (hf y List.mem_cons_self) ec;refine⟨o::os,.cons ⟨u,rv,hd⟩ r,λq hq=>?_⟩;rw[List.map_cons,List.zip_cons_cons] at hq
     rcases List.mem_cons.mp hq with rfl|hq
     ·refine⟨by rw[LN];exact fc,by rw[LN];exact ho,?_,by rw[LN];exact cab⟩;show iy X y∉cW X.stack;rw[LN];intro Gf
      rcases List.mem_cons.mp (I.aaE _ Gf) with z|z
      ·exact I.cne y _ ec z
      ·obtain⟨_,o2,e2,_⟩:=I.ok.aaF.mem z;exact absurd (Nat.lt_of_lt_of_le (Heap.lt_size e2) cab) (Nat.lt_irrefl _)
     ·exact g q hq
theorem dF {cs:List (Addr×Obj)}{a:Addr}{v:Obj}(h:cs.lookup a=some v):(a,v)∈cs:=by
 induction cs with
 |nil=>cases h
 |cons q r ih =>
  obtain⟨b,o⟩:=q;rw[List.lookup_cons] at h
  by_cases z:a=b
  ·subst z;simp at h;subst h;exact List.mem_cons_self
  ·have zb:(a==b)=false:=by simpa using z
   rw[zb] at h;exact List.mem_cons_of_mem _ (ih h)
theorem yj (F:Bu X.prog X.w X.K X.mg X.base CX k f fd ps sp)(hr:om k X.A)(hg:Gl X x)(hm:X.mg x=some (.ref f))(hk:keepIn X.K (.ref f)=true)(hb:aA X.K fd ps [])(hx:∀(H:Hp)(s:Fp)(e:Value)(s':Fp),CX X.stack H s (λ_ _ _=>False) e s'->False)
 (hy:js.map (λj=>X.N[j]?)=ys.map some)(hc:∀y∈ys,X.env.kindOf y=some .cell)(hf:∀y∈ys,X.fn y=true)(ha:PA X (e::es) t)(GY:(x==("__debug__":Str))=false:=by decide)(he:starEach (e::es) X.env=(false,eval e X.env):: starEach es X.env:=by rfl)(Gw:(backTo pos (starEach es X.env)).any (·.1)=false:=by rfl):
 PE X (.Call (.Name x p) (e::es) [] pos) (yI (ys.map (iy X)) js sp t):=by
 intro pins s σ H Q I h;refine wpAny_Call_Name_kw (dz I hg hm ?_ GY);refine callWith_K (h₀:=X.base) I.ok.mod.kin hk (bp (ha pos pins s σ H _ I h) λus s1 ⟨vs,H1,I1,r,ws,ew,q⟩=>⟨I1.kIn,?_⟩) he Gw;obtain⟨os,ro,g⟩:=mO I1 ys js ws hy ew hc hf
 have free:∀c∈ys.map (iy X),H1 c=none:=λc OU=>by
  obtain⟨y,Wv,rfl⟩:=List.mem_map.mp OU;have ec:=I1.ok.has y (.inl (hc y Wv));obtain⟨c,ec⟩:=ec
  have LN:iy X y=c:=by unfold iy;rw[ec];rfl
  rw[LN];exact I1.aaz y c ec
 refine Am (cs:=(ys.map (iy X)).zip os) F hr hb (λH e s' z=>hx H s1 e s' z) I1 (λa v e=>?_) (λa v e Gf=>?_) (λa v e=>?_) r (q os ro free)
 ·have z:=g _ (dF e);exact⟨z.1,z.2.1⟩
 ·exact(g _ (dF e)).2.2.1 Gf
 ·exact(g _ (dF e)).2.2.2
end
end L2
namespace K24
open PySem L2 PySem.W Nm
noncomputable abbrev wF:Stmt:=br (aV 27) 4
noncomputable abbrev l9:Stmt:=br (aV 27) 11
variable {H:Hp}{x:V}
theorem Th.same {H':Hp}{T:String}(h:Th H x T)(s:ay H H'):Th H' x T:=by
 cases h with
 |non=>exact .non
 |bl b=>exact .bl b
 |int i=>exact .int i
 |str x=>exact .str x
 |lst e=>exact .lst (s _ _ e)
 |tup e=>exact .tup (s _ _ e)
 |dK e=>exact .dK (s _ _ e)
inductive TX (H:Hp):V->Option (V×V)->Prop where
 |no {x:V}{T:String}:Th H x T->T ≠ "tuple"->TX H x none
 |odd {a:Addr}{xs:List V}:H a=some (.tup xs)->xs.length≠2->TX H (.ref a) none
 |two {a:Addr}{y z:V}{Ty Tz:String}:H a=some (.tup [y,z])->Th H y Ty->Th H z Tz->TX H (.ref a) (some (y,z))
theorem TX.same {H':Hp}{o:Option (V×V)}(h:TX H x o)(s:ay H H'):TX H' x o:=by
 cases h with
 |no th n=>exact .no (th.same s) n
 |odd e n=>exact .odd (s _ _ e) n
 |two e h1 h2=>exact .two (s _ _ e) (h1.same s) (h2.same s)
noncomputable def wL (p:Int):Option (V×V)->Bool
 |some (.int t,.int b)=>if p=0 then decide (1<=b)&&decide (Int.gcd t b=1) else decide (b=1)&&(decide (0<=t)&&decide (t<p))
 |_=>false
theorem Th.isTup {K:Frag}{T:String}(h:Th H x T):kitOne K (.type T) (.type "tuple")=some (decide (T="tuple")):=by cases h <;> rfl
noncomputable def xU (C NN:Addr):Sp:=λvs H Q E=>∃(s dx:Addr)(p:Int)(x y:V)(Tx Ty:String),vs=[.ref s,x,y]/\H s=some (.ins C dx (gZ p))/\Th H x Tx/\Th H y Ty/\(∀t b,x=.int t->y=.int b->rZ C NN [.ref s,.int t,.int b] H Q E)/\((c5 x&&c5 y)=false->E (.ref NN) none H)
noncomputable def lu (C:Addr):Sp:=λvs H Q _=>∃(s dx:Addr)(p:Int)(x:V)(o:Option (V×V)),vs=[.ref s,x]/\H s=some (.ins C dx (gZ p))/\FP p/\TX H x o/\Q (.bl (wL p o)) H
variable {P:vQ}{w:World}{K:PySem.W.Frag}{mg:FA}{base:Heap}
theorem CB:uZ ER ER (ao wF):=d8 (by decide +kernel)
theorem Ao {f C NN fq fw T:Addr}{fd Ub Hl:ET}(F:Ec K "made" "Field.made" wF f fd T)(c:B5 K mg C)(mN:mg "NoNumber"=some (.ref NN))(qN:nA K NN AL qB=true)
 (FQ:Bu P w K mg base (aS P w) 3 fq Ub ER (rZ C NN))(bQ:L2.aA K Ub ER [])(mQ:L2.Meth K C "quotient" fq)
 (FW:Bu P w K mg base (aS P w) 1 fw Hl oX u7)(bW:L2.aA K Hl oX [])(mW:mg "is_whole"=some (.ref fw))(kW:keepIn K (.ref fw)=true):Bu P w K mg base (aS P w) 4 f fd ER (xU C NN):=by
 refine F.okE CB (λvs H Q E h=>?_) (λFJ A outer s H vs Q E hr h=>?_)
 ·obtain⟨s,dx,p,x,y,Tx,Ty,rfl,_⟩:=h;rfl
 ·obtain⟨s,dx,p,x,y,Tx,Ty,rfl,hs,hx,hy,q,qE⟩:=h;have FY:om 1 _:=hr.mono (by decide)
  refine⟨_,aj (bg (PW.pt (iA (cp (cq (ax FW FY (by rfl) mW kW bW .nil ag (aq (pv 1) ah)))) (fe (cp (cq (ax FW FY (by rfl) mW kW bW .nil ag (aq (pv 2) ah)))))))
   (ar (gf PySem.F.excBase_ValueError qN rfl dH (by rfl) mN (aq c7 ah))) aJ)
   (ar (aB (il (E:=E) (pv 0) c.cl mQ FQ hr bQ .nil lh (aq (pv 1) (aq (pv 2) ah))))),?_⟩
  refine⟨_,rfl,x,Tx,rfl,hx,_,rfl,?_⟩
  cases e1:c5 x with
  |false=>exact cb (cb ⟨by decide,qE (by rw[e1];rfl)⟩)
  |true =>
   refine b8 ⟨_,rfl,y,Ty,rfl,hy,_,rfl,?_⟩
   cases e2:c5 y with
   |false=>exact cb ⟨by decide,qE (by rw[e1,e2];rfl)⟩
   |true =>
    have z1:∃t,x=.int t:=by cases x <;> first|exact⟨_,rfl⟩|cases e1
    have z2:∃b,y=.int b:=by cases y <;> first|exact⟨_,rfl⟩|cases e2
    obtain⟨t,rfl⟩:=z1;obtain⟨b,rfl⟩:=z2;exact b8 ⟨_,rfl,s,dx,_,rfl,hs,rfl,_,rfl,_,rfl,q t b rfl rfl⟩
theorem gU:uZ ["self","thing","top","bottom"] qj (ao l9):=d8 (by decide +kernel)
theorem pe {f C fg fw:Addr}{fd Iz Hl:ET}{tF:Tok}(F:uB K "is_number" "Field.is_number" l9 f fd)(c:B5 K mg C)(mF:mg "FRACTIONS"=some (.int 0 tF))(n:Dj mg)(mT:mg "tuple"=none)(mN:mg "len"=none)
 (FG:Bu P w K mg base (aS P w) 1 fg Iz uE Cw)(bG:L2.aA K Iz uE [])(mG:mg "common_divisor"=some (.ref fg))(kG:keepIn K (.ref fg)=true)
 (FW:Bu P w K mg base (aS P w) 1 fw Hl oX u7)(bW:L2.aA K Hl oX [])(mW:mg "is_whole"=some (.ref fw))(kW:keepIn K (.ref fw)=true):Bu P w K mg base (aS P w) 2 f fd qj (lu C):=by
 refine F.okN gU (λvs H Q E h=>?_) (λFJ A outer s H vs Q E hr h=>?_)
 ·obtain⟨s,dx,p,x,o,rfl,_⟩:=h;rfl
 ·obtain⟨s,dx,p,x,o,rfl,hs,hp,tx,q⟩:=h
  refine⟨_,aj (bg (PW.pt (iA (cp (cq (aF bq (by rfl) n.isi (by rfl) (aq (pv 1) (aq (du (by rfl) mT (by rfl) (show aC (.ty "tuple") (.type "tuple") from rfl)) ah)))))
   (fe (aN hV (aF bU (by rfl) mN PySem.boot_len (aq (pv 1) ah)) ak (aM _))))) (ar (aB fF)) aJ)
   (aj (oq (pv 1) (cK rfl (aI (aE (i:=2) gU.nd rfl (Or.inl rfl)) (aI (aE (i:=3) gU.nd rfl (Or.inl rfl)) bX))))
   (aj (bg (PW.pt (iA (cp (cq (ax FW hr (by rfl) mW kW bW .nil ag (aq (pv 2) ah)))) (fe (cp (cq (ax FW hr (by rfl) mW kW bW .nil ag (aq (pv 3) ah))))))) (ar (aB fF)) aJ)
   (aj (bg (aN dC (dX (pv 0) rfl) (cR (by rfl) mF (show aC (.int 0) (.int 0 tF) from⟨_,rfl⟩)) (aM _))
    (ar (aB (fZ (cP AF (pv 3) ak (aM _)) (iM (cP dC (ax FG hr (by rfl) mG kG bG .nil ag (aq (pv 2) (aq (pv 3) ah))) ak (aM _)))))) aJ)
   (ar (aB (fZ (cP dC (pv 3) ak (aM _)) (iM (pf me kQ ak (pv 2) (dX (pv 0) rfl))))))))),?_⟩
  cases tx with
  |@no x T th ne =>
   refine⟨_,rfl,x,.ty "tuple",_,_,_,rfl,rfl,th.ty,th.isTup,_,rfl,?_⟩;rw[decide_eq_false ne];exact cb (cb q)
  |@odd a xs ha hl =>
   refine⟨_,rfl,.ref a,.ty "tuple",_,_,_,rfl,rfl,.of (.tup ha),rfl,_,rfl,b8 ?_⟩;refine⟨_,rfl,a,_,rfl,.inr (bf.of ha),rfl,_,rfl,?_⟩;refine cG (λ_=>q) (λh=>absurd (by simp;omega) h)
  |@two a y z Ty Tz ha hy hz =>
   refine⟨_,rfl,.ref a,.ty "tuple",_,_,_,rfl,rfl,.of (.tup ha),rfl,_,rfl,b8 ?_⟩;refine⟨_,rfl,a,_,rfl,.inr (bf.of ha),rfl,_,rfl,?_⟩;refine cG (λh=>absurd h (by simp)) (λ_=>?_);refine⟨_,rfl,a,_,rfl,bf.of ha,rfl,_,_,rfl,_,_,rfl,rfl,?_⟩;refine⟨_,rfl,y,Ty,rfl,hy,_,rfl,?_⟩
   cases e1:c5 y with
   |false =>
    have z1:wL p (some (y,z))=false:=by cases y <;> first|rfl|cases e1
    rw[z1] at q;exact cb (cb q)
   |true =>
    refine b8 ⟨_,rfl,z,Tz,rfl,hz,_,rfl,?_⟩
    cases e2:c5 z with
    |false =>
     have z1:wL p (some (y,z))=false:=by cases y <;> cases z <;> first|rfl|cases e2
     rw[z1] at q;exact cb q
    |true =>
     have z1:∃t,y=.int t:=by cases y <;> first|exact⟨_,rfl⟩|cases e1
     have z2:∃b,z=.int b:=by cases z <;> first|exact⟨_,rfl⟩|cases e2
     obtain⟨t,rfl⟩:=z1;obtain⟨b,rfl⟩:=z2;refine b8 ?_;refine⟨_,rfl,s,C,dx,_,_,rfl,hs,c.cl,c.nP,rfl,rfl,_,rfl,?_⟩;refine cG (λh=>?_) (λh=>?_)
     ·have Gh:p=0:=by simpa using h
      have z1:wL p (some (.int t,.int b))=(decide (1<=b)&&decide (Int.gcd t b=1)):=by simp[wL,Gh]
      rw[z1] at q;refine⟨_,rfl,_,_,rfl,rfl,_,rfl,?_⟩;refine cG (λh1=>?_) (λh1=>?_)
      ·refine⟨_,rfl,_,rfl,t,b,rfl,rfl,?_⟩
       have e3:decide (V.int (bO t b)=V.int 1)=decide (Int.gcd t b=1):=by
        unfold bO
        by_cases g:Int.gcd t b=1
        ·simp[g]
        ·have:¬((Int.gcd t b:Nat):Int)=1:=by omega
         simp[g,this]
       have Jz:decide (1<=b)=true:=h1;rw[Jz,Bool.true_and,<-e3] at q;exact q
      ·have Jz:decide (1<=b)=false:=by simpa using h1
       rw[Jz,Bool.false_and] at q;exact q
     ·have Gh:p≠0:=by simpa using h
      have z1:wL p (some (.int t,.int b))=(decide (b=1)&&(decide (0<=t)&&decide (t<p))):=by simp[wL,Gh]
      rw[z1] at q;refine⟨_,rfl,rfl,_,rfl,?_⟩;refine cG (λh1=>?_) (λh1=>?_)
      ·have Jz:decide (b=1)=true:=by simpa using h1
       rw[Jz,Bool.true_and] at q;refine⟨_,rfl,_,_,rfl,rfl,_,rfl,?_⟩;refine cG (λh2=>?_) (λh2=>?_)
       ·refine⟨_,rfl,s,C,dx,_,_,rfl,hs,c.cl,c.nP,rfl,_,_,rfl,rfl,?_⟩;have JU:decide (0<=t)=true:=h2;rw[JU,Bool.true_and] at q;exact q
       ·have JU:decide (0<=t)=false:=by simpa using h2
        rw[JU,Bool.false_and] at q;exact q
      ·have Jz:decide (b=1)=false:=by simpa using h1
       rw[Jz,Bool.false_and] at q;exact q
end K24
namespace L2
open PySem PySem.Spec PyProof.Rows PySem.W
noncomputable def D1:V->Bool->Prop
 | .bl b,c=>c=b
 | .int i,c=>c=(i != 0)
 |_,_=>False
theorem aL {α β:Type}{R:α->β->Prop}:∀{l:List α}{m:List β}{i:Nat}{a:α},Paired R l m->l[i]?=some a->∃b,m[i]?=some b/\R a b
 |[],_,i,a,h,e=>by simp at e
 |x::l,_,i,a,h,e=>by
  cases h with
  |cons h1 h2 =>
   cases i with
   |zero=>simp at e;subst e;exact⟨_,rfl,h1⟩
   |succ i=>simpa using aL h2 (by simpa using e)
theorem kr {α β:Type}{R:α->β->Prop}:∀{l:List α}{m:List β}{i:Nat}{b:β},Paired R l m->m[i]?=some b->∃a,l[i]?=some a/\R a b
 |[],m,i,b,h,e=>by cases h;simp at e
 |x::l,_,i,b,h,e=>by
  cases h with
  |cons h1 h2 =>
   cases i with
   |zero=>simp at e;subst e;exact⟨_,rfl,h1⟩
   |succ i=>simpa using kr h2 (by simpa using e)
section
variable {X:Cx}
theorem BU {A:Around}{Q:Bool->Shared->Prop}{E:yg}{s:Fp}{y:V}{c:Bool}{u:Value}(t:D1 y c)(r:aC y u)(h:Q c s):wpAny (model X.prog X.w) A (truthy u) Q E s:=by
 cases y with
 |bl b =>
  cases(show u=Value.bool b from r)
  cases(show c=b from t)
  exact wpAny_truthy_bool h
 |int i =>
  obtain⟨k,rfl⟩:=(show ∃k,u=Value.int i k from r)
  cases(show c=(i != 0) from t)
  exact PyProof.Rows.truthy_int h
 |_=>exact t.elim
theorem pL (hc:X.calm=true):bZ X (.builtin "all") (λxs H Q=>∃l ys bs,xs=[.ref l]/\aY X.K H l ys/\Paired D1 ys bs/\Q (.bl (bs.all id)) H):=by
 intro pins s σ H xs us Q I r h;obtain⟨l,ys,bs,rfl,hl,hp,q⟩:=h;obtain⟨u,rfl,ru⟩:=fE r
 cases(show u=Value.ref l from ru)
 obtain⟨its,rv,pl,hz⟩:=I.list hl
 have FO:l<s.heap.objs.size:=by obtain⟨o,n,e,_⟩:=pl;exact Heap.lt_size e
 refine call_all_walk (wpAny_pyIter_list pl.isList ?_)
 refine⟨s.heap.objs.size,[s.heap.objs.size,l],[s.heap.objs.size],its.toArray.size,_,_,λi=>(bs[i]?).getD true,rfl,Walks.list (A:=X.A.in1) (I.ok.hd hc) _ l (Nat.ne_of_lt FO) its.toArray,
  ⟨⟨_,Heap.get?_push_size _ rfl,rfl,rfl⟩,pl.isList.push _⟩,λi v s' Q' E' hP hQ=>?_,λh' tk hk=>?_⟩
 ·have e:its[i]?=some v:=by simpa using hP
  obtain⟨y,ey,ry⟩:=kr rv e;obtain⟨b,eb,tb⟩:=aL hp ey;simp only[eb,Option.getD_some] at hQ;exact BU tb ry hQ
 ·have n:its.toArray.size=bs.length:=by rw[List.size_toArray,<-rv.length,hp.length]
  have e:((List.range its.toArray.size).all λi=>(bs[i]?).getD true)=bs.all id:=by rw[n];exact LSm.range_all bs
  rw[e];exact⟨.bl (bs.all id),H,I.kept (t':=tk) (LSm.kept_iter hk),rfl,q⟩
end
section
variable {X:Cx}{pins:List (Addr×Obj)}{σ:St}{H:Hp}{s:Fp}{h':Heap}
theorem Inv.abS (I:Inv X pins σ H s){a:Addr}(hp:s.heap.get? a=none):H a=none:=by
 cases q:H a with
 |none=>rfl
 |some u =>
  obtain⟨ob,e1⟩:=(I.hok a u q).there;rw[hp] at e1
  cases e1
theorem Inv.newObj {a:Addr}{o:HO}{t':Nat}(I:Inv X pins σ H s)(k:∀b u,s.heap.get? b=some u->h'.get? b=some u)(hp:s.heap.get? a=none)(new:ba X.prog X.w (upd H a o) h' a o):
 Inv X pins σ (upd H a o) {s with heap:=h',toks:=t'}:=by
 have hn:=I.abS hp
 have nb:∀b u,s.heap.get? b=some u->b≠a:=λb u e z=>by rw[z,hp] at e;cases e
 exact I.un ⟨λb u q _ _ _=>k b u q,λb u q _ _ _=>⟨u.slots,k b u q⟩,λb u q n _=>by rw[ai (nb b u q)];exact n,λb u q _=>⟨u,k b u q⟩,
  λb xs q=>by rw[ai (av q hn)];exact q,λb u xs q=>by rw[ai (av q hn)];exact q,λb ps q=>⟨#[],by rw[ai (av q hn),q];simp⟩⟩ (c6 (I.hok.kept k) hn new)
end
section
variable {X:Cx}{x:Str}{C:Addr}{B newId GZ:String}{F6:qw}{p pos:Pos}{e:Expr}{es:Bo}{t:TA}{r:List V->Hp->VK->Prop}
theorem xP (hc:bZ X (.ref C) r)(kp:keepIn X.K (.ref C)=true)(hg:Gl X x)(hm:X.mg x=some (.ref C))(ha:PA X (e::es) t)(GY:(x==("__debug__":Str))=false:=by decide)
 (he:starEach (e::es) X.env=(false,eval e X.env):: starEach es X.env:=by rfl)(Gw:(backTo pos (starEach es X.env)).any (·.1)=false:=by rfl):PE X (.Call (.Name x p) (e::es) [] pos) (D4 r t):=by
 intro pins s σ H Q I h;refine wpAny_Call_Name_kw (dz I hg hm ?_ GY);exact PySem.W.callWith_K (h₀:=X.base) I.ok.mod.kin kp (bp (ha pos pins s σ H _ I h) λus s1 ⟨vs,H1,I1,r1,q1⟩=>⟨I1.kIn,hc pins s1 σ H1 vs us Q I1 r1 q1⟩) he Gw
end
variable {o:Obj}
section
variable {P:vQ}{w:World}{A:Around}{E:yg}{hp:Heap}{gs:Array GenState}{dr:Drawn}{tk:Nat}{os:OsState}
variable {nm qn:Str}{C N fI:Addr}{bs bm F6 JV:qw}{hdct ab:Bool}{sn:wk}{sub:qw}{col:Option Bool}{dd:CC}{k0 k1 k2 k3 k5:Eh}{B Bn newId Ww GZ JW:String}{mN:FA}{us:qw}{oI:Obj}
noncomputable def di (hp:Heap)(C:Addr)(us:qw):Heap:=(hp.push {cls:=.type "tuple",data:=.seq us.toArray}).push {cls:=.ref C,data:=.fields #[.ref hp.objs.size,.none,.none,.none,.bool false,.none]}
theorem cn {b:Addr}(e:hp.get? b=some o):(di hp C us).get? b=some o:=Heap.get?_push_of_some _ (Heap.get?_push_of_some _ e)
theorem jc:(di hp C us).get? (hp.objs.size+1)=some {cls:=.ref C,data:=.fields #[.ref hp.objs.size,.none,.none,.none,.bool false,.none]}:=by
 unfold di
 heap_get
theorem lA:Heap.MadeExcOf hp (di hp C us) (hp.objs.size+1) (.ref C) us :=
 ⟨λb o e=>cn e,Heap.get?_none_of_le (Nat.le_succ _),hp.objs.size,jc,Heap.get?_none_of_le (Nat.le_refl _),Heap.get?_push_of_some _ (Heap.get?_push_at rfl rfl)⟩
structure xG (B:String)(F6:qw):Prop where
 mro:mroOf (.type B)=pure F6
 look:∃y,typeLookup (.type B) "__init__"=pure y
 noA:F6.contains (.type "AttributeError")=false
 noN:F6.contains (.type "NameError")=false
theorem yp {R:Result->Shared->Prop}(Fn:ExcBaseFacts Bn newId JW JV)(JX:F6.contains (.type Bn)=true)(FB:xG B F6)(T:OwnTail hp F6 bm)(hC:hp.get? C=some (excClassObj nm qn C N bs bm hdct sn sub ab col dd k0 k1 k2 k3 k5 newId))
 (hq:R (.ok (.ret (.ref (hp.objs.size+1)))) ⟨di hp C us,gs,dr,tk,os⟩)(HL:us.length<=sizeLine):codeAny (model P w) A (.builtin newId ⟨.ref C::us,[]⟩) R ⟨hp,gs,dr,tk,os⟩:=by
 have Wx:(Value.ref C::bm).contains (.type Bn)=true:=by rw[List.contains_cons,T.hasType JX];simp
 have QF:(Value.ref C::bm).contains (.type "AttributeError")=false:=by rw[List.contains_cons,T.hasType FB.noA];simp
 have QG:(Value.ref C::bm).contains (.type "NameError")=false:=by rw[List.contains_cons,T.hasType FB.noN];simp
 have Uc:=Fn.ends;refine codeAny_builtinAt Fn.entry ?_;unfold Builtin.«BaseException.__new__»;refine PySem.wpAt_bind ?_;show PySem.wpAt _ _ _ (stack>>=_) _ _ _;refine PySem.wpAt_bind (PySem.wpAt_stack λp below=>PySem.wpAt_of_wpAny ?_)
 wp_walk
 refine PySem.wpAt_of_wpAny ?_;rw[Fn.owner]
 repeat (first|(with_reducible refine wpAny_madeHere_exc Fn.canon hC ?_)|(with_reducible refine wpAny_loadPart_at hC ?_)|(with_reducible refine wpAny_isSubtype_exc hC ?_;first|rw[Wx]|rw[QF]|rw[QG])|wp_step)
 show R _ _;rw[Heap.size_push];exact hq
theorem jK (Fn:ExcBaseFacts Bn newId JW JV)(JX:F6.contains (.type Bn)=true)(FB:xG B F6)(T:OwnTail hp F6 bm){Q:PySem.Fin->Shared->Prop}
 (hC:hp.get? C=some (excClassObj nm qn C N bs bm hdct sn sub ab col dd k0 k1 k2 k3 k5 newId))(hN:hp.Ns N mN)(hi:mN "__init__"=some (.ref fI))(eI:hp.get? fI=some oI)(cI:oI.cls=.type "function")(hl:us.length<=sizeLine)
 (hq:∀h' e,Heap.MadeExcOf hp h' e (.ref C) us->wpAny (model P w) A (call (.ref fI) (.ref e::us)) (λr s'=>r=.none/\Q (.done (.ret (.ref e))) s') E ⟨h',gs,dr,tk,os⟩):
 wpAny (model P w) A (Builtin.«type.__call__» ⟨.ref C::us,[]⟩) Q E ⟨hp,gs,dr,tk,os⟩:=by
 repeat (first|(with_reducible refine wpAny_loadPart_at hC ?_)|(with_reducible refine wpAny_madeBy_exc hC ?_)|wp_step)
 refine codeAny_call_builtin_code (Code.quiet_builtin _ Fn.quiet) (wpAny_check_new_subU Fn JX T hC (yp Fn JX FB T hC ?_ hl));show wpAny _ _ _ _ _ ⟨di hp C us,gs,dr,tk,os⟩;have gC:=cn (C:=C) (us:=us) hC;have gI:=cn (C:=C) (us:=us) eI;have gN:(di hp C us).Ns N mN:=hN.keeps λb o e=>cn e;have gT:OwnTail (di hp C us) F6 bm:=T.keeps λb o e=>cn e;have gE:=jc (hp:=hp) (C:=C) (us:=us)
 have self:(Value.ref C::bm).contains (.ref C)=true:=by simp
 unfold isInstance
 repeat (first|(with_reducible refine wpAny_loadPart_at gE ?_)|(with_reducible refine wpAny_isSubtype_exc gC ?_;rw[self])|wp_step)
 show wpAny _ _ (typeLookup (.ref C) _) _ _ _;obtain⟨y,look⟩:=FB.look;refine wpAny_typeLookup_tail gC gN gT FB.mro look ?_;rw[hi];refine wpAny_holding (wpAny_bind ?_);unfold bindSpecial;refine wpAny_bind (wpAny_typeOf (T:="function") ⟨_,gI,cI⟩ ?_);rw[if_pos (by decide)];refine wpAny_pure (wpAny_bind (wpAny_mono (hq _ _ lA) (λr s' z=>?_) λ_ _ x=>x));obtain⟨rfl,z⟩:=z
 wp_walk
 exact z
theorem lB (Fn:ExcBaseFacts Bn newId JW JV)(JX:F6.contains (.type Bn)=true)(FB:xG B F6)(T:OwnTail hp F6 bm){Q:yg}
 (hC:hp.get? C=some (excClassObj nm qn C N bs bm hdct sn sub ab col dd k0 k1 k2 k3 k5 newId))(hN:hp.Ns N mN)(hi:mN "__init__"=some (.ref fI))(eI:hp.get? fI=some oI)(cI:oI.cls=.type "function")(hl:us.length<=sizeLine)
 (hq:∀h' e,Heap.MadeExcOf hp h' e (.ref C) us->wpAny (model P w) (A.under (.builtin "type.__call__" ⟨.ref C::us,[]⟩)) (call (.ref fI) (.ref e::us)) (λr s'=>r=.none/\Q (.ref e) s') E ⟨h',gs,dr,tk,os⟩):
 wpAny (model P w) A (call (.ref C) us) Q E ⟨hp,gs,dr,tk,os⟩:=by
 have t1:=tc_lookup;have t2:=tc_bind (.ref C);have hT:(⟨hp,gs,dr,tk,os⟩:Fp).TypeIs (.ref C) "type":=⟨_,hC,rfl⟩;refine wpAny_call (codeAny_of_tree ?_);show wpAny _ _ (callAny (.ref C) _) _ _ _
 repeat (any_goals (first|assumption|(with_reducible refine wpAny_loadPart_at hC ?_)|wp_step))
 exact⟨rfl,codeAny_call_builtin_at (Code.quiet_builtin _ (by decide +kernel)) entry_typeCall (wpAny_check_type_call_sub hC (jK Fn JX FB T hC hN hi eI cI hl λh' e hm=>hq h' e hm))⟩
end
theorem yr:xG "KeyError" [.type "KeyError",.type "LookupError",.type "Exception",.type "BaseException",.type "object"] :=
 ⟨by rw[mroOf_type];kernel_rfl,⟨some (.builtin "KeyError.__init__"),by rw[typeLookup_type,builtinLookup_eq_fast];kernel_rfl⟩,by decide +kernel,by decide +kernel⟩
noncomputable def pS (a:Addr)(cls:Value):HO:=.ext λh=>∃o vs,h.get? a=some o/\o.cls=cls/\o.data=.fields vs/\o.dict=none/\dE vs
noncomputable def gA (dx:Addr)(fs:List (Str×V)):HO:=.ext λh=>∃mA,h.Ns1 dx mA/\(∀f,dq (fs.lookup f) (mA f))/\Within mA (fs.map (·.1))
variable {vs:Cm}
section
variable {P:vQ}{w:World}{H:Hp}{h:Heap}{a dx:Addr}{cls:Value}{fs:List (Str×V)}{fr:Bool}
theorem zG (e:h.get? a=some o)(hc:o.cls=cls)(hd:o.data=.fields vs)(hn:o.dict=none)(hu:dE vs):ba P w H h a (pS a cls):=
 ⟨⟨o,vs,e,hc,hd,hn,hu⟩,⟨o,e⟩,λh1 h2 ⟨o,vs,e,hc,hd,hn,hu⟩ k=>⟨o,vs,k o e,hc,hd,hn,hu⟩⟩
theorem zT (e:h.get? a=some o)(hc:o.cls=cls)(hd:o.data=.fields vs)(hn:o.dict=some dx)(hu:fr=true->dE vs):ba P w H h a (eU a cls dx fr):=
 ⟨⟨o,vs,e,hc,hd,hn,hu⟩,⟨o,e⟩,λh1 h2 ⟨o,vs,e,hc,hd,hn,hu⟩ k=>⟨o,vs,k o e,hc,hd,hn,hu⟩⟩
theorem y4 (k:dM P w H h)(e:H a=some (pS a cls)):∃o vs,h.get? a=some o/\o.cls=cls/\o.data=.fields vs/\o.dict=none/\dE vs:=(k a _ e).1
theorem jo (k:dM P w H h)(e:H a=some (eU a cls dx fr)):∃o vs,h.get? a=some o/\o.cls=cls/\o.data=.fields vs/\o.dict=some dx/\(fr=true->dE vs):=(k a _ e).1
theorem zK (k:dM P w H h)(e:H dx=some (gA dx fs)):∃mA,h.Ns1 dx mA/\(∀f,dq (fs.lookup f) (mA f))/\Within mA (fs.map (·.1)):=(k dx _ e).1
theorem y7 {mA:FA}(n:h.Ns1 dx mA)(r:∀f,dq (fs.lookup f) (mA f))(wi:Within mA (fs.map (·.1))):ba P w H h dx (gA dx fs):=by
 refine⟨⟨mA,n,r,wi⟩,?_,λh1 h2 ⟨m,n,r,wi⟩ k=>⟨m,?_,r,wi⟩⟩
 ·obtain⟨o,es,ep,e,_⟩:=n;exact⟨o,e⟩
 ·obtain⟨o,es,ep,e,rest⟩:=n;exact⟨o,es,ep,k o e,rest⟩
end
noncomputable def nU (K:Frag)(C f:Addr)(F6:qw)(newId:String):Bool :=
 match K.lookup C with
 |some ⟨.type "type",_,.cls cd,sl⟩ =>
  match cd.mro,sl.toList with
  | .ref D::tl,[_,_,_,_,some (.builtin made),_]=>(D==C)&&((made==newId)&&((!cd.hasDel)&&(tailIn K F6 tl&&(nsOkIn K cd.ns&&(nsIn K cd.ns "__init__"==some (some (.ref f)))))))
  |_,_=>false
 |_=>false
theorem CD {K:Frag}{h:Heap}{N:Addr}{m:FA}{n:Str}{v:Value}(X:K.In h)(G:h.Ns N m)(e:nsIn K N n=some (some v)):m n=some v:=by
 obtain⟨o,es,ep,ho,hd,z,hf⟩:=G;unfold nsIn at e
 split at e
 ·rename_i q
  have w:=(X _ _ q).symm.trans ho
  cases w
  cases hd
  rw[<-hf]
  split at e
  ·rename_i en he
   have e2:en.val=v:=Option.some.inj (Option.some.inj e);simp only[nsFind,findBy,<-Array.find?_toList,he];exact congrArg some e2
  ·split at e <;> cases e
 ·cases e
theorem wy {K:Frag}{h:Heap}{C f:Addr}{F6:qw}{newId:String}(X:K.In h)(q:nU K C f F6 newId=true):
 ∃bm N nm qn bs hd sn sub ab col dd k0 k1 k2 k3 k5 mN,h.get? C=some (excClassObj nm qn C N bs bm hd sn sub ab col dd k0 k1 k2 k3 k5 newId)/\h.Ns N mN/\mN "__init__"=some (.ref f)/\OwnTail h F6 bm:=by
 unfold nU at q
 split at q
 ·rename_i dd cd sl ho
  split at q
  ·rename_i D tl k0 k1 k2 k3 made k5 hm hs
   rw[Bool.and_eq_true,Bool.and_eq_true,Bool.and_eq_true,Bool.and_eq_true,Bool.and_eq_true] at q;obtain⟨q1,q2,q3,q4,q5,q6⟩:=q;have q1:=eq_of_beq q1;have q2:=eq_of_beq q2;subst q1 q2;obtain⟨nm,bs,mro,ns,qn,hd,sn,sub,ab,col,yN⟩:=cd
   have q7:yN=false:=by simpa using q3
   dsimp only at hm;subst hm q7
   have Wy:sl = #[k0,k1,k2,k3,some (.builtin made),k5]:=by
    obtain⟨l⟩:=sl;simp only at hs;rw[hs]
   subst Wy;have G:h.Ns ns _:=.of_isNs (isNs_of_in X q5);exact⟨tl,ns,nm,qn,bs,hd,sn,sub,ab,col,dd,k0,k1,k2,k3,k5,_,X _ _ ho,G,CD X G (eq_of_beq q6),tail_of_in X q4⟩
  ·cases q
 ·cases q
section
variable {X:Cx}{CX:AP}{k:Nat}{f C:Addr}{fd:ET}{ps:wk}{sp:Sp}{E:XK}{B Bn newId Ww GZ JW:String}{F6 JV:qw}{oI:Obj}
noncomputable def pG (C:Addr)(sp:Sp)(E:XK):List V->Hp->VK->Prop:=λvs H Q=>vs.length<=sizeLine/\∀a,H a=none->sp (.ref a::vs) (upd H a (pS a (.ref C))) (λv H2=>v=.non/\Q (.ref a) H2) E
theorem vE (Fn:ExcBaseFacts Bn newId JW JV)(JX:F6.contains (.type Bn)=true)(FB:xG B F6)(q:nU X.K C f F6 newId=true)(lI:X.K.lookup f=some oI)(cI:oI.cls=.type "function")
 (F:Bu X.prog X.w X.K X.mg X.base CX k f fd ps sp)(hr:om (k+1) X.A)(hb:aA X.K fd ps [])(hx:d3 CX X E):bZ X (.ref C) (pG C sp E):=by
 intro pins s σ H vs us Q I r ⟨hl,h⟩;obtain⟨bm,N,nm,qn,bs,hdct,sn,sub,ab,col,dd,k0,k1,k2,k3,k5,mN,hC,hN,hi,T⟩:=wy I.kIn q
 have Hy:us.length<=sizeLine:=by rw[<-r.length];exact hl
 refine lB Fn JX FB T hC hN hi (I.kIn _ _ lI) cI Hy λh' a hm=>?_;obtain⟨t,h1,h2,h3⟩:=hm.there;have I2:=I.newObj (t':=s.toks) (o:=pS a (.ref C)) hm.keeps hm.new (zG h1 rfl rfl rfl ⟨t,rfl⟩);have hq:=h a (I.abS hm.new);have r2:aG (V.ref a::vs) (Value.ref a::us):=.cons rfl r
 have Hw:(Value.ref a::us++[]).length=ps.length:=by
  have e:=r2.length;rw[F.len _ _ _ _ hq] at e;rw[List.append_nil];exact e.symm
 have Ud:=hb _ (Value.ref a::us) I2.kIn Hw;rw[List.append_nil] at Ud;refine wpAny_call (codeAny_mono (F.run _ X.stack _ _ ⟨Value.ref a::us,[]⟩ (Value.ref a::us) _ _ E (hr.make C us []) (I2.abJ.make C us []) Ud r2 hq) λres s' Ip=>?_)
 cases res with
 |error e=>exact hx pins σ _ _ e s' I2 Ip
 |ok fl =>
  cases fl with
  |ret u =>
   obtain⟨v,H',I3,rv,ev,q3⟩:=I2.after Ip;subst ev;exact⟨rv,⟨V.ref a,H',I3,rfl,q3⟩⟩
  |next=>exact False.elim Ip
  |brk=>exact False.elim Ip
  |cont=>exact False.elim Ip
end
noncomputable def iz:List Value->List Value
 | .ref _::r=>iz r
 |l=>l
noncomputable abbrev Ac:List Value:=[.type "ValueError",.type "Exception",.type "BaseException",.type "object"]
noncomputable abbrev yP:List Value:=[.type "KeyError",.type "LookupError",.type "Exception",.type "BaseException",.type "object"]
theorem qe (self:Value)(l:qw):refuseLoop self "__setattr__" l=refuseLoop self "__setattr__" (iz l):=by
 induction l with
 |nil=>rfl
 |cons v r ih =>
  cases v with
  |ref c=>rw[refuseLoop_ref];exact ih
  |_=>rfl
theorem vt (self:Value):refuseLoop self "__setattr__" Ac=pure ():=by kernel_rfl
theorem vF (self:Value):refuseLoop self "__setattr__" yP=pure ():=by kernel_rfl
structure ze (K:Frag)(C:Addr):Prop where
 ek:p3 K C
 ok:((clsIn K C).any λcd=>cd.hasDict&&(iz cd.mro==Ac || iz cd.mro==yP))=true
 sa:findIn K (.ref C) "__setattr__"=some (some (.builtin "object.__setattr__"))
variable {tk:Tok}
section
variable {P:vQ}{w:World}{A:Around}{E:yg}{K:Frag}{C x dx:Addr}{s:Fp}{ox:Obj}{od:Option Obj}{name:Str}{v:Value}{mA:FA}
theorem ze.cd (k:ze K C):∃cd,clsIn K C=some cd/\cd.hasDict=true/\∀self,refuseLoop self "__setattr__" cd.mro=pure ():=by
 obtain⟨cd,hc,z⟩:=any_some k.ok;rw[Bool.and_eq_true] at z;refine⟨cd,hc,z.1,λself=>?_⟩;rw[qe]
 rcases Bool.or_eq_true _ _▸z.2 with q|q
 ·rw[eq_of_beq q];exact vt self
 ·rw[eq_of_beq q];exact vF self
theorem y3 {R:Result->Shared->Prop}(X:K.In s.heap)(k:ze K C)(J:InstAt s.heap x ox C od)(hn:findIn K (.ref C) name=some none)
 (h:wpAny (model P w) A.in1 (Builtin.ObjectAttr.storeInOwnDict (.ref x) (.ref C) (.str name tk) name v false)
  (λfin s'=>match fin with| .done f=>R (.ok f) s'| .again c'=>c'.quiet=true/\codeAny (model P w) A c' R s') (λe s'=>R (.error e) s') s):
 codeAny (model P w) A (.call (.builtin "object.__setattr__") ⟨[.ref x,.str name tk,v],[]⟩) R s:=by
 have SF:=PySem.F.store_object;obtain⟨cd,hc,hh,hp⟩:=k.cd;have sub:Looks (model P w) s.heap (isInstance (.ref x) (.type "object")) true:=J.type.andThen (looks_mroIn X k.ek.ob);have hm:Looks (model P w) s.heap (mroOf (.ref C)) cd.mro:=(looks_clsIn X hc).andThen .now;refine codeAny_call_builtin SF.slot.plain SF.entry (@check_slot (model P w) _ _ s "object.__setattr__" "object" "__setattr__" (.ref x) [.str name tk,v] [] _ SF.kind SF.split sub (SF.args (.ref x) (.str name tk) v) ?_);rw[osa_eq,refuse_eq];refine wpAny_bind (wpAny_bind (J.type.here (wpAny_bind (hm.here ?_))));rw[hp];refine wpAny_pure (wpAny_bind (J.type.here (wpAny_bind ((looks_findIn X hn).here (wpAny_bind ?_)))));exact wpAny_pure h
theorem yy {Q:Unit->Shared->Prop}(X:K.In s.heap)(k:ze K C)(hx:s.heap.get? x=some ox)(hc:ox.cls=.ref C)(hd:ox.data=.fields vs)(ho:ox.dict=none)(hn:findIn K (.ref C) name=some none)
 (h:∀h',h'.Ns1 s.heap.objs.size (λy=>if y=name then some v else none)->h'.get? x=some {ox with dict:=some s.heap.objs.size}->(∀b o,b≠x->s.heap.get? b=some o->h'.get? b=some o)->Q () {s with heap:=h',toks:=s.toks+2}):
 wpAny (model P w) A (setAttr (.ref x) name v) Q E s:=by
 have J:InstAt s.heap x ox C none:=⟨hx,hc,by unfold notCls;rw[hd],by rw[ho];trivial⟩;refine set_plain X J k.sa (y3 (s:={s with toks:=s.toks+1}) X k J hn ?_);obtain⟨cd,Gs,hh,_⟩:=k.cd;obtain⟨oc,Wz,O2,F0⟩:=ox;dsimp only at hc hd ho;subst hc hd ho;refine wpAny_bind (wpAny_pure (wpAny_bind (wpAny_bind (wpAny_loadPart hx (wpAny_bind (PySem.W.Looks.here (s:={s with toks:=s.toks+1}) (PySem.W.looks_clsIn X Gs) ?_))))));rw[hh];show wpAny _ _ (alloc _>>=λd=>update x _>>=λ_=>dictMade _ x d) _ _ _;have FX:x≠s.heap.objs.size:=Nat.ne_of_lt (Heap.lt_size hx);have e1:(s.heap.push {cls:=.type "dict",data:=.dict #[]}).get? x=some ⟨.ref C,none,.fields vs,F0⟩:=Heap.get?_push_of_some _ hx;refine wpAny_bind (wpAny_alloc' (wpAny_bind (wpAny_update' e1 ?_)));show wpAny _ _ (pure (some s.heap.objs.size)) _ _ _;refine wpAny_pure ?_
 have e2:((s.heap.push {cls:=.type "dict",data:=.dict #[]}).update x λo=>{cls:=o.cls,dict:=some s.heap.objs.size,data:=o.data,slots:=o.slots}).get? s.heap.objs.size=some {cls:=.type "dict",data:=.dict #[]}:=
  (Heap.get?_update_ne _ _ _ _ FX.symm).trans (Heap.get?_push_at rfl rfl)
 have e3:((s.heap.push {cls:=.type "dict",data:=.dict #[]}).update x λo=>{cls:=o.cls,dict:=some s.heap.objs.size,data:=o.data,slots:=o.slots}).get? x=some ⟨.ref C,some s.heap.objs.size,.fields vs,F0⟩ :=
  Heap.get?_update_self _ e1 rfl
 have e4:((s.heap.push {cls:=.type "dict",data:=.dict #[]}).update x λo=>{cls:=o.cls,dict:=some s.heap.objs.size,data:=o.data,slots:=o.slots}).Ns s.heap.objs.size (λ_=>none):=
  ⟨_,#[],_,e2,rfl,λe he=>absurd he (by simp),λ_=>rfl⟩
 show wpAny _ _ (Builtin.ObjectAttr.storeInDict s.heap.objs.size (.str name s.toks) name v) _ _ _;unfold Builtin.ObjectAttr.storeInDict Builtin.ObjectAttr.newKeyGuard;refine wpAny_bind (wpAny_pure (wpAny_bind (wpAny_nsSet1 (Heap.Ns1.of_empty e4) λh' n2 sb=>?_)));obtain⟨oD,VU,VV,P7,P8,Io⟩:=n2.count (Within.cons name v Within.nil);refine wpAny_bind (wpAny_lookBehind P7 (by rw[P8];exact pastItsLine_dict (Nat.le_trans Io (by rw[List.length_cons,List.length_nil,sizeLine_eq];omega))) ?_);refine wpAny_pure (h h' n2 ((sb.2 x FX).trans e3) λb o hb e=>(sb.2 b (Nat.ne_of_lt (Heap.lt_size e))).trans ((Heap.get?_update_ne _ _ _ _ hb).trans (Heap.get?_push_of_some _ e)))
theorem je {Q:PySem.Fin->Shared->Prop}(X:K.In s.heap)(J:InstAt s.heap x ox C od)(hf:findObj K C od name=some (.value v))(hq:Q (.done (.ret v)) s):
 wpAny (model P w) A (Builtin.«object.__getattribute__» ⟨[.ref x,.str name tk],[]⟩) Q E s:=by
 obtain⟨hh,g,d,t,os⟩:=s;have L0:=J.type (M:=model P w);have L1:=looks_find (M:=model P w) X J hf;refine wpAny_bind (wpAny_pure (wpAny_bind (wpAny_pure (wpAny_bind (L0.at (wpAny_bind (L1.at ?_)))))));exact wpAny_pure hq
theorem sj {fill expr:Bool}{Q:yg}(X:K.In s.heap)(k:p3 K C)(J:InstAt s.heap x ox C od)(hf:findObj K C od name=some (.value v))(hh:handedIn v=true)(hq:Q v s):
 wpAny (model P w) A (getAttrBy (.ref x) (.str name tk) fill expr) Q E s:=by
 obtain⟨WA,g,d,t,os⟩:=s;have L0:Looks (model P w) WA (typeOf (.ref x)) (.ref C):=J.type;have L1:=looks_findIn (M:=model P w) X k.ga;have L2:=looks_findIn (M:=model P w) X k.gx;have f3:=F.attr_ValueError.ga.bind (.ref x)
 have V9:(expr&&onTheHeap (Value.builtin "BaseException.__getattribute__"))=false:=by cases expr <;> rfl
 have GU:(Value.builtin "BaseException.__getattribute__"==Value.builtin "object.__getattribute__")=false:=by decide +kernel
 have Wa:(onTheHeap (Value.ref C)&&Value.builtin "BaseException.__getattribute__"==Value.builtin "object.__getattribute__")=false:=by rw[GU];rfl
 have WB:=handedOut_of hh
 repeat (any_goals (first|assumption|(with_reducible refine Looks.at (by assumption) ?_)|(with_reducible refine Looks.at L0 ?_)|wp_step))
 refine codeAny_call_builtin F.attr_ValueError.ga.plain F.entry_bexc_ga (m3 X k J.at_ J.cls (je X J hf ?_))
 repeat (any_goals (first|assumption|(rw[WB])|wp_step))
theorem yZ {expr:Bool}{Q:yg}(X:K.In s.heap)(k:p3 K C)(J:InstAt s.heap x ox C od)(hf:findObj K C od name=some (.value v))(hh:handedIn v=true)(hq:Q v {s with toks:=s.toks+1}):
 wpAny (model P w) A (getAttr (.ref x) name expr) Q E s:=by
 unfold getAttr;exact wpAny_bind (wpAny_mkText (sj (s:={s with toks:=s.toks+1}) X k J hf hh hq))
end
section
variable {X:Cx}{pins:List (Addr×Obj)}{σ:St}{H:Hp}{s:Fp}{A:Around}{E:yg}{a dx C:Addr}{fs:List (Str×V)}{f:Str}{v:V}{fr:Bool}
theorem qo {b:Bool}{Q:yg}(I:Inv X pins σ H s)(e:H a=some (eU a (.ref C) dx fr))(ed:H dx=some (gA dx fs))(k:ze X.K C)(n:cu X.K C f)(l:fs.lookup f=some v)
 (h:∀u s',Inv X pins σ H s'->aC v u->Q u s'):wpAny (model X.prog X.w) A (getAttr (.ref a) f b) Q E s:=by
 obtain⟨o,vs,ho,hc,hd,hx,hu⟩:=jo I.hok e;obtain⟨mA,ns,r,_⟩:=zK I.hok ed;obtain⟨u,hu,ru⟩:=dq.some_of (v:=v) (o:=mA f) (by rw[<-l];exact r f);obtain⟨od,MA,hl⟩:=mv ns;have J:InstAt s.heap a o C (some od):=⟨ho,hc,by unfold notCls;rw[hd],by rw[hx];exact MA⟩;obtain⟨cd,Gs,hh,_⟩:=k.cd;exact yZ I.kIn k.ek J (findObj_own (by unfold hasDictIn;rw[Gs];exact hh) n rfl (by rw[hl,hu])) (mK ru) (h u _ (I.tok _) ru)
theorem nV {y:V}{u:Value}{Q:Unit->Shared->Prop}(I:Inv X pins σ H s)(e:H a=some (pS a (.ref C)))(k:ze X.K C)(n:cu X.K C f)(ry:aC y u)
 (h:∀dx s',H dx=none->dx≠a->Inv X pins σ (upd (upd H dx (gA dx [(f,y)])) a (eU a (.ref C) dx true)) s'->Q () s'):wpAny (model X.prog X.w) A (setAttr (.ref a) f u) Q E s:=by
 obtain⟨o,vs,ho,hc,hd,hx,hu⟩:=y4 I.hok e;refine yy I.kIn k ho hc hd hx n λh' n2 GU hk=>?_;have FX:s.heap.objs.size≠a:=λz=>absurd (Heap.lt_size ho) (by rw[z];exact Nat.lt_irrefl _);have QC:H s.heap.objs.size=none:=I.hok.fresh (Nat.le_refl _);refine h _ _ QC FX ?_;obtain⟨oc,Wz,O2,F0⟩:=o;dsimp only at hc hd hx;subst hc hd hx;have m1:(h'.update a λ_=>⟨.ref C,none,.fields vs,F0⟩).get? a=some ⟨.ref C,none,.fields vs,F0⟩:=Heap.get?_update_self _ GU rfl;have m2:∀b,b≠a->(h'.update a λ_=>⟨.ref C,none,.fields vs,F0⟩).get? b=h'.get? b:=λb hb=>Heap.get?_update_ne _ _ _ _ hb
 have WC:(h'.update a λ_=>⟨.ref C,none,.fields vs,F0⟩).Ns1 s.heap.objs.size (λy=>if y=f then some u else none):=by
  obtain⟨o2,es,ep,e2,rest⟩:=n2;exact⟨o2,es,ep,(m2 _ FX).trans e2,rest⟩
 have rel:∀g,dq ([(f,y)].lookup g) (if g=f then some u else none):=λg=>by
  by_cases q:g=f
  ·rw[if_pos q,q];simp only[List.lookup,beq_self_eq_true];exact ry
  ·rw[if_neg q]
   have:(g==f)=false:=by simpa using q
   simp only[List.lookup,this];exact True.intro
 have wi:Within (λg=>if g=f then some u else none) ([(f,y)].map (·.1)):=λg hg=>by
  by_cases q:g=f
  ·rw[q];simp
  ·exact absurd (if_neg q) hg
 have I1:=I.laid (a:=s.heap.objs.size) (o:=gA s.heap.objs.size [(f,y)]) (h':=h'.update a λ_=>⟨.ref C,none,.fields vs,F0⟩) (t':=s.toks+2) (λb z q=>by
  by_cases hb:b=a
  ·subst hb;rw[ho] at q
   cases q
   exact m1
  ·exact(m2 b hb).trans (hk b z hb q)) (Nat.le_refl _) (y7 WC rel wi)
 exact I1.write (x:=a) (e:=a) (by rw[ai (Ne.symm FX),e];exact True.intro) (.inl rfl) (λb z hb q=>(m2 b hb).symm.trans q) ⟨_,GU⟩ (zT GU rfl rfl rfl λ_=>hu)
end
noncomputable def AK (K:Frag)(ta:TE)(f:Str):TE:=λσ H Q=>ta σ H λx H1=>∃a C dx fr fs v,x=.ref a/\H1 a=some (eU a (.ref C) dx fr)/\H1 dx=some (gA dx fs)/\ze K C/\cu K C f/\fs.lookup f=some v/\Q v H1
noncomputable def Cb (K:Frag)(ta tv:TE)(f:Str):TS:=λD σ H=>tv σ H λy H1=>ta σ H1 λx H2=>∃a C,x=.ref a/\H2 a=some (pS a (.ref C))/\ze K C/\cu K C f/\∀dx,H2 dx=none->dx≠a->D.nx σ (upd (upd H2 dx (gA dx [(f,y)])) a (eU a (.ref C) dx true))
section
variable {X:Cx}{o e value:Expr}{f:Str}{pos pos':Pos}{ta tv:TE}
theorem Ag (he:PE X e ta)(hb:attributeBase e f X.env (eval e X.env)=eval e X.env):PE X (.Attribute e f pos) (AK X.K ta f):=by
 intro pins s σ H Q I h;refine uk hb (bp (he pins s σ H _ I h) λu s1 z'=>?_);obtain⟨x,H1,I1,rx,a,C,dx,fr,fs,v,ex,ea,ed,k,n,l,q⟩:=z';subst ex
 cases(show u=Value.ref a from rx)
 exact qo I1 ea ed k n l λu' s2 I2 ru=>⟨v,H1,I2,ru,q⟩
theorem xt (ha:PE X o ta)(hv:PE X value tv)(hs:swapsWith value (some (.Attribute o f pos')) pos.line X.env=pure false):PS X (.Assign [.Attribute o f pos'] value pos) (Cb X.K ta tv f):=by
 intro pins s σ H D I h;refine plainObj_wpAny_Assign_Attribute (bp (hv pins s σ H _ I h) λu s1 ⟨y,H1,I1,ry,q⟩=>bp (ha pins s1 σ H1 _ I1 q) λov s2 z'=>?_) hs;obtain⟨x,H2,I2,rx,a,C,ex,ea,k,n,q2⟩:=z';subst ex
 cases(show ov=Value.ref a from rx)
 exact nV I2 ea k n ry λdx s3 hn ne I3=>⟨σ,_,I3,q2 dx hn ne⟩
theorem nY:bZ X (.builtin "isinstance") (λxs H Q=>∃a C dx fr c cv b,xs=[.ref a,c]/\BS c cv/\H a=some (eU a (.ref C) dx fr)/\p3 X.K C/\kitOne X.K (.ref C) cv=some b/\Q (.bl b) H):=by
 intro pins s σ H xs us Q I r h;obtain⟨a,C,dx,fr,c,cv,b,rfl,hc,ea,k,e,q⟩:=h
 cases r with
 |cons r1 r2 =>
  cases r2 with
  |cons r2 r3 =>
   cases r3
   rename_i u uc
   have Qt:uc=cv:=by
    cases c with
    |ty n=>cases(show uc=Value.type n from r2);exact hc.symm
    |ref a=>cases(show uc=Value.ref a from r2);exact hc.symm
    |_=>exact hc.elim
   subst Qt
   cases(show u=Value.ref a from r1)
   obtain⟨o,vs,h1,h2,_⟩:=jo I.hok ea;exact kia_one (pX k) I.kIn ⟨o,h1,h2⟩ e (λz=>nomatch z) λtk=>⟨.bl b,H,I.tok tk,rfl,q⟩
end
noncomputable def eF (K:Frag)(C:Addr):Prop:=∃oC,K.lookup C=some oC/\oC.cls=.type "type"
section
variable {M:Model}{A:Around}{E:yg}{K:Frag}{s:Fp}{env:Env}
theorem vn {x:Sem Value}{Q:Flow->Shared->Prop}(hh:A.handled=none)
 (h:wpAny M A x (λv s₁=>∃e oe C vs,v=.ref e/\K.In s₁.heap/\p3 K C/\eF K C/\s₁.heap.get? e=some oe/\oe.cls=.ref C/\oe.data=.fields vs/\dE vs/\E (.ref e) s₁) E s):
 wpAny M A (raiseStmt env (some x) none) Q E s:=by
 unfold raiseStmt;refine wpAny_bind (wpAny_mono h (λv s₁ h₁=>?_) λ_ _ x=>x);obtain⟨e,oe,C,vs,rfl,X,k,⟨oC,lC,cC⟩,he,hc,hd,⟨t,rfl⟩,hE⟩:=h₁;obtain⟨hp,g,d,tk,os⟩:=s₁;obtain⟨oc,od,O2,F0⟩:=oe;dsimp only at hc hd;subst hc hd;have L0:Looks M hp (typeOf (.ref e)) (.ref C):=(Looks.ld he).andThen .now;have L1:=looks_mroIn (M:=M) X k.be;have hC:hp.get? C=some oC:=X _ _ lC
 repeat (first|(with_reducible refine wpAny_loadPart_at he ?_)|(with_reducible refine wpAny_loadPart_at hC ?_;rw[cC])|(with_reducible refine Looks.at L0 ?_)|(with_reducible refine Looks.at L1 ?_)|wp_step)
 exact wpAny_raiseNew_none hh hE
end
section
variable {X:Cx}{pins pins':List (Addr×Obj)}{σ:St}{H:Hp}{s:Fp}{XE:yg}{a dx C:Addr}
noncomputable def An (K:Frag)(R:St->Addr->Addr->Addr->Hp->Prop)(te:TE):TS:=λ_ σ H=>te σ H λv H1=>∃a C dx,v=.ref a/\H1 a=some (eU a (.ref C) dx true)/\p3 K C/\eF K C/\R σ a C dx H1
theorem uJ {R:St->Addr->Addr->Addr->Hp->Prop}{e:Expr}{te:TE}{pos:Pos}(hc:X.calm=true)(hR:∀pins σ H s a C dx,Inv X pins σ H s->H a=some (eU a (.ref C) dx true)->R σ a C dx H->X.xe (.ref a) s)(he:PE X e te):
 PS X (.Raise (some e) none pos) (An X.K R te):=by
 intro pins s σ H D I h;rw[arm_exec_Raise];refine wpAny_bind (wpAny_standAt (vn (K:=X.K) (I.ok.hd hc) (wpAny_bind (bp (he pins s σ H _ I h) λu s1 ⟨v,H1,I1,rv,a,C,dx,ev,ea,k,tc,r⟩=>wpAny_bind (wpAny_standAt (wpAny_pure ?_))))));subst ev
 cases(show u=Value.ref a from rv)
 obtain⟨oe,vs,h1,h2,h3,_,h5⟩:=jo I1.hok ea;exact⟨a,oe,C,vs,rfl,I1.kIn,k,tc,h1,h2,h3,h5 rfl,hR pins σ H1 s1 a C dx I1 ea r⟩
end
end L2
namespace JA
open PySem PySem.W PyProof.Rows
variable {i:Nat}
section
variable {prog:vQ}{w:World}{A:Around}{E:yg}{s:Fp}{d it:Addr}{es:Array DictEntry}{ep:Nat}{o:Obj}
structure Raw (h:Heap)(d:Addr)(es:Array DictEntry)(ep:Nat):Prop where
 ex:∃o,h.get? d=some o/\o.ExactDict/\o.data=.dict es ep
theorem Raw.ty (r:Raw s.heap d es ep):s.TypeIs (.ref d) "dict":=let⟨o,h,x,_⟩:=r.ex;⟨o,h,x.1⟩
theorem Raw.keep {h h':Heap}(r:Raw h d es ep)(k:∀o,h.get? d=some o->h'.get? d=some o):Raw h' d es ep:=let⟨o,h1,x⟩:=r.ex;⟨o,k o h1,x⟩
theorem rK {Q:yg}(r:Raw s.heap d es ep)(hd:(d==sysModules)=false)(h:Q (.ref s.heap.objs.size) {s with heap:=s.heap.push {cls:=.type "dict_items",data:=.fields #[.ref d]} }):
 wpAny (model prog w) A (call (.builtin "dict.items") [.ref d]) Q E s:=by
 refine wpAny_call_entry F.slot_dict_items r.ty F.entry_dict_items ?_ (F.args_dict_items_1 _);unfold Builtin.«dict.items» Builtin.Dict.noArgs;refine wpAny_bind (wpAny_bind (wpAny_notOrdered_dict r.ty (wpAny_pure ?_)));show wpAny _ _ (Builtin.Dict.showsAll d>>=_) _ _ s;unfold Builtin.Dict.showsAll;rw[if_neg (by rw[hd];exact Bool.false_ne_true)];exact wpAny_bind (wpAny_pure (wpAny_bind (wpAny_newObj_type (wpAny_pure ⟨_,rfl,h⟩))))
theorem qV {v:Addr}{Q:yg}(hv:s.heap.IsItemsView v d)(r:Raw s.heap d es ep)
 (hQ:Q (.ref s.heap.objs.size) {s with heap:=s.heap.push {cls:=.type "dict_itemiterator",data:=.fields #[.none,.bool false,.ref d,.int 0 0,.int es.size 0,.int ep 0,.none,.none]} }):wpAny (model prog w) A (pyIter (.ref v)) Q E s:=by
 obtain⟨ov,g1,g2,g3⟩:=id hv;obtain⟨o,h1,h2,h3⟩:=r.ex;refine wpAny_pyIter_slot hv.typeIs F.slot_dict_items_iter (wpAny_call_entry F.slot_dict_items_iter hv.typeIs F.entry_dict_items_iter ?_ (F.args_dict_items_iter_1 _));unfold Builtin.«dict_items.__iter__» Builtin.Dict_items.dictOf;refine wpAny_bind (wpAny_pure (wpAny_bind (wpAny_bind (wpAny_field g1 g3 (x:=.ref d) rfl (wpAny_pure (wpAny_bind ?_))))));unfold Builtin.Dict_items.newIterator;refine wpAny_bind (wpAny_dictEntries h1 h3 (wpAny_bind (wpAny_dictEpoch h1 h3 ?_)));simp only[show Builtin.Dict_items.ownsTuple "dict_itemiterator"=true from by decide,if_true];refine wpAny_newObj_type (wpAny_pure ⟨_,rfl,"dict_itemiterator",_,⟨_,Heap.get?_push_size _ rfl,rfl⟩,F.slot_dict_itemiterator_next.lookup,?_⟩) (by simp only[sizeOk,Builtin.Dict_items.ownedTupleFields,List.size_toArray,List.length_append,List.length_cons,List.length_nil,sizeLine_eq];omega);simpa[rawInt,Builtin.Dict_items.ownedTupleFields] using hQ
theorem r8 {ok ov:Value}{Q:Option Value->Shared->Prop}(hit:IsItemIter s.heap it d i es.size ep ok ov)(r:Raw s.heap d es ep)(hi:i<es.size)
 (hQ:∀h',IsItemIterOut h' it d (i+1) es.size ep es[i].key es[i].val s.heap.objs.size->h'.get? s.heap.objs.size=some {cls:=.type "tuple",data:=.seq #[es[i].key,es[i].val]}->h'.objs.size=s.heap.objs.size+1 →
  (∀b o,b≠it->s.heap.get? b=some o->h'.get? b=some o)->Q (some (.ref s.heap.objs.size)) {s with heap:=h'}):wpAny (model prog w) A (pyNext (.ref it)) Q E s:=by
 obtain⟨hp,g,dr,tk,os⟩:=s;obtain⟨o,h1,h2,h3⟩:=r.ex;have hT:Shared.TypeIs ⟨hp,g,dr,tk,os⟩ (.ref it) "dict_itemiterator":=⟨_,hit,rfl⟩;unfold pyNext;refine wpAny_bind (wpAny_attempt (wpAny_callSpecial?_slot (name:=Str.ofString "__next__") hT F.slot_dict_itemiterator_next (wpAny_call_entry F.slot_dict_itemiterator_next hT F.entry_dict_itemiterator_next ?_ (F.args_dict_itemiterator_next_1 _))));refine wpAny_bind (wpAny_pure (wpAny_bind (wpAny_bind ?_)))
 first|refine wpAny_bind (wpAny_typeNameOfWhole_itemiter hT (wpAny_pure (wpAny_bind (wpAny_fieldsOf hit rfl ?_))))|refine wpAny_bind (wpAny_typeNameOf_itemiter hT (wpAny_pure (wpAny_bind (wpAny_fieldsOf hit rfl ?_))))
 simp only[show Builtin.Dict_items.ownsTuple "dict_itemiterator"=true from by decide,if_true];show wpAny _ _ (if(Value.ref d==Value.none)=true then _ else _) _ _ _;rw[if_neg (show ¬((Value.ref d==Value.none)=true) from Bool.false_ne_true)];refine wpAny_bind (wpAny_pure (wpAny_bind (wpAny_dictEntries h1 h3 ?_)));rw[if_neg (by simp)];refine wpAny_bind (wpAny_pure (wpAny_bind (wpAny_dictEpoch h1 h3 ?_)));rw[if_neg (by simp)];refine wpAny_pure ?_;simp only[show ¬((i:Int)<0) from by omega,if_false,Int.toNat_natCast,Array.getElem?_eq_getElem hi];refine wpAny_bind ?_
 first|refine wpAny_bind (wpAny_typeNameOfWhole_itemiter hT (wpAny_pure (wpAny_bind (wpAny_isOneOf_itemiter hT ?_))))|refine wpAny_bind (wpAny_typeNameOf_itemiter hT (wpAny_pure (wpAny_bind (wpAny_isOneOf_itemiter hT ?_))))
 show wpAny _ _ (setField (.ref it) 3 (rawInt ((i:Int)+1))>>=_) _ _ ⟨hp,g,dr,tk,os⟩;refine wpAny_bind (wpAny_setField_rec hit (by simp) λk1 e1 (b1:Heap.SameBut it hp k1)=>?_)
 have q1:IsItemIter k1 it d (i+1) es.size ep ok ov:=by
  unfold IsItemIter;rw[show((i+1:Nat):Int)=(i:Int)+1 by omega];simpa[rawInt] using e1
 have t1:Shared.TypeIs ⟨k1,g,dr,tk,os⟩ (.ref it) "dict_itemiterator":=⟨_,q1,rfl⟩;refine wpAny_bind (wpAny_holding (wpAny_bind (wpAny_isOneOf_itemiter t1 (wpAny_bind (wpAny_isOneOf_itemiter t1 ?_)))));show wpAny _ _ (Builtin.Dict_items.pairFromOwner (.ref it) 6 es[i].key es[i].val) _ _ ⟨k1,g,dr,tk,os⟩;unfold Builtin.Dict_items.pairFromOwner;refine wpAny_bind (wpAny_newTuple ?_);have q2:IsItemIter (k1.push {cls:=.type "tuple",data:=.seq #[es[i].key,es[i].val]}) it d (i+1) es.size ep ok ov:=Heap.get?_push_of_some _ q1;have z1:k1.objs.size=hp.objs.size:=b1.1;have ne:hp.objs.size≠it:=Nat.ne_of_gt (Heap.lt_size hit)
 have w2:(k1.push {cls:=.type "tuple",data:=.seq #[es[i].key,es[i].val]}).get? hp.objs.size=some {cls:=.type "tuple",data:=.seq #[es[i].key,es[i].val]}:=by rw[<-z1];exact Heap.get?_push_size _ rfl
 have z2:(k1.push {cls:=.type "tuple",data:=.seq #[es[i].key,es[i].val]}).objs.size=hp.objs.size+1:=by rw[Heap.size_push,z1]
 have p2:∀b o,b≠it->hp.get? b=some o->(k1.push {cls:=.type "tuple",data:=.seq #[es[i].key,es[i].val]}).get? b=some o:=λb o hb e=>Heap.get?_push_of_some _ (b1.extBut b o hb e);show wpAny _ _ (Builtin.Dict_items.ownedTupleIsFree (.ref it)>>=_) _ _ ⟨k1.push {cls:=.type "tuple",data:=.seq #[es[i].key,es[i].val]},g,dr,tk,os⟩;rw[z1];generalize k1.push {cls:=.type "tuple",data:=.seq #[es[i].key,es[i].val]}=k2 at q2 w2 z2 p2 |-;unfold Builtin.Dict_items.ownedTupleIsFree;refine wpAny_bind (wpAny_bind (wpAny_field q2 rfl (x:=.none) rfl (wpAny_pure ?_)));simp only[if_true];refine wpAny_bind (wpAny_field q2 rfl (x:=ok) rfl (wpAny_bind (wpAny_field q2 rfl (x:=ov) rfl (wpAny_bind (wpAny_setField_rec q2 (by simp) λk3 e3 (b3:Heap.SameBut it k2 k3)=>?_)))));have q3:IsItemIter k3 it d (i+1) es.size ep es[i].key ov:=e3;refine wpAny_bind (wpAny_setField_rec q3 (by simp) λk4 e4 (b4:Heap.SameBut it k3 k4)=>?_);have q4:IsItemIter k4 it d (i+1) es.size ep es[i].key es[i].val:=e4;refine wpAny_bind (wpAny_setField_rec q4 (by simp) λk5 e5 (b5:Heap.SameBut it k4 k5)=>?_);have q5:IsItemIterOut k5 it d (i+1) es.size ep es[i].key es[i].val hp.objs.size:=e5;refine wpAny_bind (wpAny_setField_rec q5 (by simp) λk6 e6 (b6:Heap.SameBut it k5 k6)=>?_);have q6:IsItemIterOut k6 it d (i+1) es.size ep es[i].key es[i].val hp.objs.size:=e6;have go:∀b o,b≠it->k2.get? b=some o->k6.get? b=some o:=λb o hb e=>b6.extBut b o hb (b5.extBut b o hb (b4.extBut b o hb (b3.extBut b o hb e)));exact wpAny_bind (wpAny_letGo (wpAny_pure (wpAny_pure ⟨_,rfl,wpAny_pure (hQ k6 q6 (go _ _ ne w2) (by show k6.objs.size=hp.objs.size+1;rw[b6.1,b5.1,b4.1,b3.1,z2]) λb o hb e=>go b o hb (p2 b o hb e))⟩)))
theorem vj {ok ov:Value}{Q:Option Value->Shared->Prop}(hh:A.handled=none)(hit:IsItemIter s.heap it d i es.size ep ok ov)(r:Raw s.heap d es ep)(hi:es.size<=i)
 (hQ:∀h',Heap.ExtBut it s.heap h'->Q none {s with heap:=h'}):wpAny (model prog w) A (pyNext (.ref it)) Q E s:=by
 obtain⟨o,h1,h2,h3⟩:=r.ex;have hT:s.TypeIs (.ref it) "dict_itemiterator":=⟨_,hit,rfl⟩;unfold pyNext;refine wpAny_bind (wpAny_attempt (wpAny_callSpecial?_slot (name:=Str.ofString "__next__") hT F.slot_dict_itemiterator_next (wpAny_call_entry F.slot_dict_itemiterator_next hT F.entry_dict_itemiterator_next ?_ (F.args_dict_itemiterator_next_1 _))));refine wpAny_bind (wpAny_pure (wpAny_bind (wpAny_bind ?_)))
 first|refine wpAny_bind (wpAny_typeNameOfWhole_itemiter hT (wpAny_pure (wpAny_bind (wpAny_fieldsOf hit rfl ?_))))|refine wpAny_bind (wpAny_typeNameOf_itemiter hT (wpAny_pure (wpAny_bind (wpAny_fieldsOf hit rfl ?_))))
 simp only[show Builtin.Dict_items.ownsTuple "dict_itemiterator"=true from by decide,if_true];show wpAny _ _ (if(Value.ref d==Value.none)=true then _ else _) _ _ _;rw[if_neg (show ¬((Value.ref d==Value.none)=true) from Bool.false_ne_true)];refine wpAny_bind (wpAny_pure (wpAny_bind (wpAny_dictEntries h1 h3 ?_)));rw[if_neg (by simp)];refine wpAny_bind (wpAny_pure (wpAny_bind (wpAny_dictEpoch h1 h3 ?_)));rw[if_neg (by simp)];refine wpAny_pure ?_;simp only[show ¬((i:Int)<0) from by omega,if_false,Int.toNat_natCast,Array.getElem?_eq_none hi];refine wpAny_bind ?_
 first|refine wpAny_bind (wpAny_typeNameOfWhole_itemiter hT (wpAny_pure ?_))|refine wpAny_bind (wpAny_typeNameOf_itemiter hT (wpAny_pure ?_))
 show wpAny _ _ (setField (.ref it) 2 .none>>=_) _ _ s;refine wpAny_bind (wpAny_setField hit rfl (by simp) ?_);show wpAny _ _ (newExc (.type "StopIteration") []>>=_) _ _ _;refine wpAny_bind ?_;simp only[newExc,newTuple];refine wpAny_bind (wpAny_newObj_type (wpAny_bind (m:=firstArgMember _ _) (wpAny_of_eq (a:=Value.none) (by first|rfl|(simp only[firstArgMember];rfl)) (wpAny_newObj_type ?_ (by size_fits)))) (by size_fits));simp only[raiseNew];refine wpAny_bind (wpAny_handled ?_);rw[show A.in1.handled=none from hh];refine wpAny_bind (wpAny_pure (wpAny_throw ?_));refine wpAny_bind (wpAny_isInstance (T:="StopIteration") (b:=true) ⟨_,Heap.get?_push_size _ rfl,rfl⟩ isSubtype_stop ?_);exact wpAny_pure (hQ _ (((Heap.SameBut.update ..).extBut.push _).push _))
theorem vH {Q:yg}(r:Raw s.heap d es ep)(hd:(d==sysModules)=false)
 (hQ:Q (.ref s.heap.objs.size) {s with heap:=s.heap.push {cls:=.type "dict_keyiterator",data:=.fields #[.ref d,.int 0 0,.int es.size 0,.int ep 0]} }):wpAny (model prog w) A (pyIter (.ref d)) Q E s:=by
 obtain⟨o,h1,h2,h3⟩:=r.ex;refine wpAny_pyIter_slot r.ty F.slot_dict_iter (wpAny_call_entry F.slot_dict_iter r.ty F.entry_dict_iter ?_ (F.args_dict_iter_1 _));unfold Builtin.«dict.__iter__» Builtin.Dict.dictSlotNone;refine wpAny_bind (wpAny_bind (wpAny_notOrdered_dict r.ty (?_:wpAny _ _ (pure (Value.ref d)) _ _ s)));refine wpAny_pure ?_;show wpAny _ _ (Builtin.Dict.showsAll d>>=_) _ _ s;unfold Builtin.Dict.showsAll;rw[if_neg (by rw[hd];exact Bool.false_ne_true)];refine wpAny_bind (wpAny_pure (wpAny_bind (wpAny_dictEntries h1 h3 (wpAny_bind (wpAny_dictEpoch h1 h3 (wpAny_bind (wpAny_newObj_type (wpAny_pure ⟨_,rfl,"dict_keyiterator",_,⟨_,Heap.get?_push_size _ rfl,rfl⟩,F.slot_dict_keyiterator_next.lookup,?_⟩))))))));simpa[rawInt] using hQ
theorem u4 {Q:Option Value->Shared->Prop}(hit:s.heap.IsKeyIter it d i es.size ep)(r:Raw s.heap d es ep)(hi:i<es.size)
 (hQ:∀h',h'.IsKeyIter it d (i+1) es.size ep->Heap.SameBut it s.heap h'->Q (some es[i].key) {s with heap:=h'}):wpAny (model prog w) A (pyNext (.ref it)) Q E s:=by
 obtain⟨oi,g1,g2,g3⟩:=id hit;obtain⟨o,h1,h2,h3⟩:=r.ex;have hT:=hit.typeIs;unfold pyNext;refine wpAny_bind (wpAny_attempt (wpAny_callSpecial?_slot (name:=Str.ofString "__next__") hT F.slot_dict_keyiterator_next (wpAny_call_entry F.slot_dict_keyiterator_next hT F.entry_dict_keyiterator_next ?_ (F.args_dict_keyiterator_next_1 _))));refine wpAny_bind (wpAny_pure (wpAny_bind (wpAny_bind ?_)))
 first|refine wpAny_bind (wpAny_typeNameOfWhole_keyiter hT (wpAny_pure (wpAny_bind (wpAny_fieldsOf g1 g3 ?_))))|refine wpAny_bind (wpAny_typeNameOf_keyiter hT (wpAny_pure (wpAny_bind (wpAny_fieldsOf g1 g3 ?_))))
 simp only[show Builtin.Dict_items.ownsTuple "dict_keyiterator"=false from by decide,Bool.false_eq_true,if_false];show wpAny _ _ (if(Value.ref d==Value.none)=true then _ else _) _ _ _;rw[if_neg (show ¬((Value.ref d==Value.none)=true) from Bool.false_ne_true)];refine wpAny_bind (wpAny_pure (wpAny_bind (wpAny_dictEntries h1 h3 ?_)));rw[if_neg (by simp)];refine wpAny_bind (wpAny_pure (wpAny_bind (wpAny_dictEpoch h1 h3 ?_)));rw[if_neg (by simp)];refine wpAny_pure ?_;simp only[show ¬((i:Int)<0) from by omega,if_false,Int.toNat_natCast,Array.getElem?_eq_getElem hi];refine wpAny_bind ?_
 first|refine wpAny_bind (wpAny_typeNameOfWhole_keyiter hT (wpAny_pure (wpAny_bind (wpAny_isOneOf_keyiter hT ?_))))|refine wpAny_bind (wpAny_typeNameOf_keyiter hT (wpAny_pure (wpAny_bind (wpAny_isOneOf_keyiter hT ?_))))
 show wpAny _ _ (setField (.ref it) 1 (rawInt ((i:Int)+1))>>=_) _ _ s;refine wpAny_bind (wpAny_setField g1 g3 (by simp) ?_);have q1:(s.heap.update it (Obj.mapFields (·.setIfInBounds 1 (rawInt ((i:Int)+1))))).IsKeyIter it d (i+1) es.size ep:=⟨_,Heap.get?_update_self _ g1 (Obj.isFreed_of_fields (Obj.data_mapFields g3 _)),(Obj.cls_mapFields ..).trans g2,by rw[Obj.data_mapFields g3];simp[rawInt]⟩;refine wpAny_bind (wpAny_holding (wpAny_bind (wpAny_isOneOf_keyiter (s:={s with heap:=s.heap.update it (Obj.mapFields (·.setIfInBounds 1 (rawInt ((i:Int)+1))))}) q1.typeIs (?_:wpAny _ _ (pure es[i].key) _ _ _))));exact wpAny_pure (wpAny_pure ⟨_,rfl,wpAny_pure (hQ _ q1 (Heap.SameBut.update ..))⟩)
theorem wQ {Q:Option Value->Shared->Prop}(hh:A.handled=none)(hit:s.heap.IsKeyIter it d i es.size ep)(r:Raw s.heap d es ep)(hi:es.size<=i)
 (hQ:∀h',Heap.ExtBut it s.heap h'->Q none {s with heap:=h'}):wpAny (model prog w) A (pyNext (.ref it)) Q E s:=by
 obtain⟨oi,g1,g2,g3⟩:=id hit;obtain⟨o,h1,h2,h3⟩:=r.ex;have hT:=hit.typeIs;unfold pyNext;refine wpAny_bind (wpAny_attempt (wpAny_callSpecial?_slot (name:=Str.ofString "__next__") hT F.slot_dict_keyiterator_next (wpAny_call_entry F.slot_dict_keyiterator_next hT F.entry_dict_keyiterator_next ?_ (F.args_dict_keyiterator_next_1 _))));refine wpAny_bind (wpAny_pure (wpAny_bind (wpAny_bind ?_)))
 first|refine wpAny_bind (wpAny_typeNameOfWhole_keyiter hT (wpAny_pure (wpAny_bind (wpAny_fieldsOf g1 g3 ?_))))|refine wpAny_bind (wpAny_typeNameOf_keyiter hT (wpAny_pure (wpAny_bind (wpAny_fieldsOf g1 g3 ?_))))
 simp only[show Builtin.Dict_items.ownsTuple "dict_keyiterator"=false from by decide,Bool.false_eq_true,if_false];show wpAny _ _ (if(Value.ref d==Value.none)=true then _ else _) _ _ _;rw[if_neg (show ¬((Value.ref d==Value.none)=true) from Bool.false_ne_true)];refine wpAny_bind (wpAny_pure (wpAny_bind (wpAny_dictEntries h1 h3 ?_)));rw[if_neg (by simp)];refine wpAny_bind (wpAny_pure (wpAny_bind (wpAny_dictEpoch h1 h3 ?_)));rw[if_neg (by simp)];refine wpAny_pure ?_;simp only[show ¬((i:Int)<0) from by omega,if_false,Int.toNat_natCast,Array.getElem?_eq_none hi];refine wpAny_bind ?_
 first|refine wpAny_bind (wpAny_typeNameOfWhole_keyiter hT (wpAny_pure ?_))|refine wpAny_bind (wpAny_typeNameOf_keyiter hT (wpAny_pure ?_))
 show wpAny _ _ (setField (.ref it) 0 .none>>=_) _ _ s;refine wpAny_bind (wpAny_setField g1 g3 (by simp) ?_);show wpAny _ _ (newExc (.type "StopIteration") []>>=_) _ _ _;refine wpAny_bind ?_;simp only[newExc,newTuple];refine wpAny_bind (wpAny_newObj_type (wpAny_bind (m:=firstArgMember _ _) (wpAny_of_eq (a:=Value.none) (by first|rfl|(simp only[firstArgMember];rfl)) (wpAny_newObj_type ?_ (by size_fits)))) (by size_fits));simp only[raiseNew];refine wpAny_bind (wpAny_handled ?_);rw[show A.in1.handled=none from hh];refine wpAny_bind (wpAny_pure (wpAny_throw ?_));refine wpAny_bind (wpAny_isInstance (T:="StopIteration") (b:=true) ⟨_,Heap.get?_push_size _ rfl,rfl⟩ isSubtype_stop ?_);exact wpAny_pure (hQ _ (((Heap.SameBut.update ..).extBut.push _).push _))
end
end JA
namespace L2
open PySem PySem.Spec PyProof.Rows PySem.W
noncomputable abbrev k9 (o:Obj)(FF:List (List Key×V)):HO:=.frz o (.dT FF)
noncomputable def EJ (d:Addr)(o:Obj)(FF:List (List Key×V)):It :=
 ⟨λi H=>i<FF.length/\H d=some (k9 o FF),λi H x H'=>∃p b k v,FF[i]?=some (k,v)/\H p=none/\H b=some (.tup (k.map kV))/\x=.ref p/\H'=upd H p (.tup [.ref b,v]),λi H=>FF.length<=i/\H d=some (k9 o FF)⟩
noncomputable def EA (d:Addr)(o:Obj)(FF:List (List Key×V)):It :=
 ⟨λi H=>i<FF.length/\H d=some (k9 o FF),λi H x H'=>∃b k v,FF[i]?=some (k,v)/\H b=some (.tup (k.map kV))/\x=.ref b/\H'=H,λi H=>FF.length<=i/\H d=some (k9 o FF)⟩
theorem eV {α β:Type}{R:α->β->Prop}:∀{l:List α}{m:List β}{i:Nat}{a:α},Paired R l m->l[i]?=some a->∃b,m[i]?=some b/\R a b
 |_,_,_,_,.nil,e=>by simp at e
 |_,_,0,_,.cons r _,e=>by simp at e;subst e;exact⟨_,rfl,r⟩
 |_,_,i+1,a,.cons _ t,e=>by
  obtain⟨b,h1,h2⟩:=eV (i:=i) (a:=a) t (by simpa using e);exact⟨b,by simpa using h1,h2⟩
section
variable {X:Cx}{pins:List (Addr×Obj)}{σ:St}{H:Hp}{s:Fp}{d:Addr}{o:Obj}{FF:List (List Key×V)}
theorem iT (I:Inv X pins σ H s)(e:H d=some (k9 o FF)):∃es ep,o.data=.dict es ep/\JA.Raw s.heap d es ep/\es.size=FF.length/\(d==sysModules)=false /\
 ∀(i:Nat)(hi:i<es.size) k v,FF[i]?=some (k,v)->∃b,es[i].key=.ref b/\H b=some (.tup (k.map kV))/\aC v es[i].val:=by
 obtain⟨h0,z,y,xs,r,o',es,ep,h1,h2,h3,h4,h5⟩:=(show ba X.prog X.w H s.heap d (k9 o FF) from I.hok d _ e);rw[h0] at h1
 cases h1
 have hl:es.size=FF.length:=by
  rw[<-Array.length_toList,h4,List.length_map];exact(Paired.length r).symm
 refine⟨es,ep,h3,⟨_,h0,h2,h3⟩,hl,y,λi hi k v hk=>?_⟩;obtain⟨q,hq,e1,e2,e3⟩:=eV r hk
 have z1:es.toList[i]?=some (entryOfKey (tupleKind (aQ X.prog X.w)) q):=by rw[h4,List.getElem?_map,hq];rfl
 have z2:es[i]=entryOfKey (tupleKind (aQ X.prog X.w)) q:=by
  have z3:es.toList[i]?=some es[i]:=by simp[hi]
  rw[z3] at z1;exact Option.some.inj z1
 rw[z2];exact⟨q.2.1,rfl,e2,e3⟩
theorem Inv.freeze (I:Inv X pins σ H s)(e:H d=some (.dT FF)):∃o,s.heap.get? d=some o/\Inv X pins σ (upd H d (k9 o FF)) s:=by
 obtain⟨z,y,xs,r,o,es,ep,h1,h2⟩:=(show ba X.prog X.w H s.heap d (.dT FF) from I.hok d _ e);refine⟨o,h1,I.write (t':=s.toks) (h':=s.heap) (x:=d) (e:=d) (o:=k9 o FF) (by rw[e];exact True.intro) (.inl rfl) (λ_ _ _ q=>q) ⟨o,h1⟩ ⟨h1,z,y,xs,?_,o,es,ep,h1,h2⟩⟩;exact Paired.aaW r λp q w=>⟨w.1,by rw[ai (i7 w.2.1 e (by intro z;cases z))];exact w.2.1,w.2.2⟩
end
variable {P:vQ}{w:World}{K:Frag}{elts:Bo}{x1:Nat}{tp:Pos}
theorem qz (d it:Addr)(o:Obj)(FF:List (List Key×V))(es:Array DictEntry)(ep:Nat)(ho:o.data=.dict es ep):Turn P w K (.Tuple elts x1 tp) (EJ d o FF) [it] it (λi h=>∃ok ov,IsItemIter h it d i es.size ep ok ov) where
 mem:=by simp
 obj:=λi h st b hb=>by
  have e:b=it:=by simpa using hb
  subst e;obtain⟨ok,ov,e⟩:=st;exact⟨_,e,λv z=>by cases z⟩
 keep:=λi h h' st k=>let⟨ok,ov,e⟩:=st;⟨ok,ov,k it (by simp) _ e⟩
 item:=by
  intro X hP hw hK hc i pins s σ H E I hf st hg;subst hP hw hK;obtain⟨FO,hd⟩:=hg;obtain⟨ok,ov,hit⟩:=st;obtain⟨Im,JG,Gq,raw,hl,hm,JB⟩:=iT I hd;rw[ho] at Gq
  cases Gq
  obtain⟨f0,f1,f2,f3,f4,f5⟩:=hf it (by simp)
  have hi:i<es.size:=by omega
  refine JA.r8 hit raw hi λh' q1 q2 q3 q4=>?_;obtain⟨⟨k,v⟩,hk⟩:∃kv,FF[i]?=some kv:=⟨FF[i],by simp[FO]⟩;obtain⟨b,eb,hb,rv⟩:=JB i hi k v hk;refine⟨_,rfl,wpAny_letOwnedTupleGo_items (s:={s with heap:=h'}) q1 λh2 q5 q6=>?_⟩;have JH:s.heap.objs.size≠it:=Nat.ne_of_gt (Heap.lt_size hit);have I1:Inv X pins σ H {s with heap:=h2}:=I.turned (t':=s.toks) (λb o hb e=>(q6.2 b hb).trans (q4 b o hb e)) f0 f1 f3 f4 f5;have tup:h2.get? s.heap.objs.size=some {cls:=.type "tuple",data:=.seq #[es[i].key,es[i].val]}:=(q6.2 _ JH).trans q2;have fr:H s.heap.objs.size=none:=I.hok.fresh (Nat.le_refl _)
  have I2:Inv X pins σ (upd H s.heap.objs.size (.tup [.ref b,v])) {s with heap:=h2}:=by
   refine⟨I1.ok,I1.os,I1.bare,?_,I1.loc,I1.cell,?_,λx c e=>?_,λp hp=>?_,c6 I1.hok fr ⟨by show 2<=sizeLine;decide,[.ref b,es[i].val],.cons rfl (.cons rv .nil),?_⟩,I1.len⟩
   ·have u:=I1.base;refine⟨u.keep,u.slot,λb' o' e n hx=>?_,u.there,λb' xs e=>?_,λb' o' u' e=>?_,λb' ps e=>?_⟩
    ·have ne:b'≠s.heap.objs.size:=Nat.ne_of_lt (Nat.lt_of_lt_of_le (Heap.lt_size e) I.sz);rw[ai ne];exact u.free b' o' e n hx
    ·rw[ai (av (u.aaC b' xs e) fr)];exact u.aaC b' xs e
    ·rw[ai (av (u.aaB b' o' u' e) fr)];exact u.aaB b' o' u' e
    ·obtain⟨m,q⟩:=u.aaI b' ps e;exact⟨m,by rw[ai (av q fr)];exact q⟩
   ·rw[ai (Nat.ne_of_lt I.lt)];exact I1.free
   ·obtain⟨v',q⟩:=I.cell x c e;rw[ai (Nat.ne_of_lt q.lt)];exact I1.aaz x c e
   ·obtain⟨e,n,r⟩:=I1.pin p hp;have lt:p.1<s.heap.objs.size:=Heap.lt_size (I.pin p hp).1;exact⟨e,by rw[ai (Nat.ne_of_lt lt)];exact n,r⟩
   ·exact⟨_,tup,rfl,0,by rw[<-eb]⟩
  refine⟨.ref s.heap.objs.size,_,I2,rfl,⟨s.heap.objs.size,b,k,v,hk,fr,hb,rfl,rfl⟩,⟨_,_,q5⟩,λb' Gf=>?_⟩
  have e:b'=it:=by simpa using Gf
  subst e;rw[ai (Ne.symm JH)];exact f0
 done:=by
  intro X hP hw hK hc i pins s σ H E I hf st hg;subst hP hw hK;obtain⟨FO,hd⟩:=hg;obtain⟨ok,ov,hit⟩:=st;obtain⟨Im,JG,Gq,raw,hl,hm,JB⟩:=iT I hd;rw[ho] at Gq
  cases Gq
  obtain⟨f0,f1,f2,f3,f4,f5⟩:=hf it (by simp);exact JA.vj (I.ok.hd hc) hit raw (by omega) λh' eb=>⟨rfl,I.turned (t':=s.toks) (λb o hb e=>eb b o hb e) f0 f1 f3 f4 f5⟩
 self:=λA i s Q E st h=>by
  obtain⟨ok,ov,hit⟩:=st;exact kcp_self hit h
theorem vI {tg:Expr}(d it:Addr)(o:Obj)(FF:List (List Key×V))(es:Array DictEntry)(ep:Nat)(ho:o.data=.dict es ep):Turn P w K tg (EA d o FF) [it] it (λi h=>h.IsKeyIter it d i es.size ep) where
 mem:=by simp
 obj:=λi h st b hb=>by
  have e:b=it:=by simpa using hb
  subst e;obtain⟨o,e,c,d⟩:=st;exact⟨o,e,λv z=>by rw[d] at z;cases z⟩
 keep:=λi h h' st k=>st.at λo e=>k it (by simp) o e
 item:=by
  intro X hP hw hK hc i pins s σ H E I hf st hg;subst hP hw hK;obtain⟨FO,hd⟩:=hg;obtain⟨Im,JG,Gq,raw,hl,hm,JB⟩:=iT I hd;rw[ho] at Gq
  cases Gq
  obtain⟨f0,f1,f2,f3,f4,f5⟩:=hf it (by simp)
  have hi:i<es.size:=by omega
  refine JA.u4 st raw hi λh' q1 q2=>?_;obtain⟨⟨k,v⟩,hk⟩:∃kv,FF[i]?=some kv:=⟨FF[i],by simp[FO]⟩;obtain⟨b,eb,hb,rv⟩:=JB i hi k v hk;have I1:Inv X pins σ H {s with heap:=h'}:=I.turned (t':=s.toks) (λb o hb e=>(q2.2 b hb).trans e) f0 f1 f3 f4 f5;obtain⟨oi,e,c,dd⟩:=id q1;exact⟨_,rfl,uf (s:={s with heap:=h'}) e c dd (by decide) ⟨.ref b,H,I1,eb,⟨b,k,v,hk,hb,rfl,rfl⟩,q1,λb hb=>(hf b hb).1⟩⟩
 done:=by
  intro X hP hw hK hc i pins s σ H E I hf st hg;subst hP hw hK;obtain⟨FO,hd⟩:=hg;obtain⟨Im,JG,Gq,raw,hl,hm,JB⟩:=iT I hd;rw[ho] at Gq
  cases Gq
  obtain⟨f0,f1,f2,f3,f4,f5⟩:=hf it (by simp);exact JA.wQ (I.ok.hd hc) st raw (by omega) λh' eb=>⟨rfl,I.turned (t':=s.toks) (λb o hb e=>eb b o hb e) f0 f1 f3 f4 f5⟩
 self:=λ_ _ _ _ _ st h=>wpAny_pyIter_keyiter st h
noncomputable def DW (H1:Hp)(d:Addr)(FF:List (List Key×V))(R:Obj->Hp->Prop):Prop:=(∃o,H1 d=some (k9 o FF)/\R o H1)\/(H1 d=some (.dT FF)/\∀o,R o (upd H1 d (k9 o FF)))
noncomputable def Br (td:TE):TI:=λσ H R=>td σ H λx H1=>∃d FF,x=.ref d/\DW H1 d FF λo H2=>R (EJ d o FF) H2
noncomputable def CW (td:TE):TI:=λσ H R=>td σ H λx H1=>∃d FF,x=.ref d/\DW H1 d FF λo H2=>R (EA d o FF) H2
section
variable {X:Cx}{pins:List (Addr×Obj)}{σ:St}{H:Hp}{s:Fp}
theorem rg {d:Addr}{FF:List (List Key×V)}{R:Obj->Hp->Prop}(I:Inv X pins σ H s)(h:DW H d FF R):∃o H2,Inv X pins σ H2 s/\H2 d=some (k9 o FF)/\R o H2:=by
 rcases h with⟨o,e,r⟩|⟨e,r⟩
 ·exact⟨o,H,I,e,r⟩
 ·obtain⟨o,_,I2⟩:=I.freeze e;exact⟨o,_,I2,ae,r o⟩
theorem ki {oe:Expr}{td:TE}{apos FU:Pos}(ho:PE X oe td)(Iu:attributeBase oe "items" X.env (eval oe X.env)=eval oe X.env:=by rfl)(Iv:(apos.endLine==FU.line)=true:=by rfl):
 PI X (.Tuple elts x1 tp) (.Call (.Attribute oe "items" apos) [] [] FU) (Br td):=by
 intro pins s σ H R I h;refine wpAny_Call_method0_late Iu Iv (bp (ho pins s σ H _ I h) λv s1 z'=>?_);obtain⟨x,H1,I1,r1,d,FF,ex,fz⟩:=z';subst ex
 cases(show v=Value.ref d from r1)
 obtain⟨o,H2,I2,hd,rr⟩:=rg I1 fz;obtain⟨es,ep,MA,raw,hl,hm,_⟩:=iT I2 hd;refine⟨"dict","dict.items",PySem.F.plainAttrs_dict,PySem.F.slot_dict_items,PySem.F.type_dict_items,raw.ty,λa e=>?_,Calls.callWith_builtin rfl (PySem.evalArgs_none (JA.rK raw hm ?_))⟩
 ·cases e
  obtain⟨o',h1,h2,_⟩:=raw.ex;exact⟨o',h1,h2.2.1⟩
 ·have I3:Inv X pins σ H2 {s1 with heap:=s1.heap.push {cls:=.type "dict_items",data:=.fields #[.ref d]} }:=I2.kept (t':=s1.toks) λb ob q=>Heap.get?_push_of_some _ q;refine JA.qV (s:={s1 with heap:=s1.heap.push {cls:=.type "dict_items",data:=.fields #[.ref d]} }) ⟨_,Heap.get?_push_size _ rfl,rfl,rfl⟩ (raw.keep λo e=>Heap.get?_push_of_some _ e) ?_;generalize s1.heap.push {cls:=.type "dict_items",data:=.fields #[.ref d]}=h2 at I3 |-;refine⟨h2.objs.size,[h2.objs.size],_,EJ d o FF,H2,rfl,I3.kept (t':=s1.toks) λb ob q=>Heap.get?_push_of_some _ q,qz d _ o FF es ep MA,⟨_,_,Heap.get?_push_size _ rfl⟩,λb hb=>?_,rr⟩
  have e:b=h2.objs.size:=by simpa using hb
  subst e;exact I3.aa4 (Nat.le_refl _) (I3.hok.fresh (Nat.le_refl _))
theorem zp {tg oe:Expr}{td:TE}(ho:PE X oe td):PI X tg oe (CW td):=by
 intro pins s σ H R I h;refine bp (ho pins s σ H _ I h) λv s1 z'=>?_;obtain⟨x,H1,I1,r1,d,FF,ex,fz⟩:=z';subst ex
 cases(show v=Value.ref d from r1)
 obtain⟨o,H2,I2,hd,rr⟩:=rg I1 fz;obtain⟨es,ep,MA,raw,hl,hm,_⟩:=iT I2 hd;refine JA.vH raw hm ⟨s1.heap.objs.size,[s1.heap.objs.size],_,EA d o FF,H2,rfl,I2.kept (t':=s1.toks) λb ob q=>Heap.get?_push_of_some _ q,vI d _ o FF es ep MA,⟨_,Heap.get?_push_size _ rfl,rfl,rfl⟩,λb hb=>?_,rr⟩
 have e:b=s1.heap.objs.size:=by simpa using hb
 subst e;exact I2.aa4 (Nat.le_refl _) (I2.hok.fresh (Nat.le_refl _))
theorem Inv.ab5 {s2:Fp}{T:Addr}{xs:List V}{its:qw}(I:Inv X pins σ H s)(I1:Inv X pins σ H s2)(hT:s.heap.objs.size<=T)(e:s2.heap.get? T=some {cls:=.type "tuple",data:=.seq its.toArray})(r:aG xs its)(hz:xs.length<=sizeLine):
 Inv X pins σ (upd H T (.tup xs)) s2:=by
 have fr:H T=none:=I.hok.fresh hT;refine⟨I1.ok,I1.os,I1.bare,?_,I1.loc,I1.cell,?_,λx c e=>?_,λp hp=>?_,c6 I1.hok fr ⟨hz,its,r,⟨_,e,rfl,0,rfl⟩⟩,I1.len⟩
 ·have u:=I1.base;refine⟨u.keep,u.slot,λb' o' e n hx=>?_,u.there,λb' xs e=>?_,λb' o' u' e=>?_,λb' ps e=>?_⟩
  ·have ne:b'≠T:=Nat.ne_of_lt (Nat.lt_of_lt_of_le (Heap.lt_size e) (Nat.le_trans I.sz hT));rw[ai ne];exact u.free b' o' e n hx
  ·rw[ai (av (u.aaC b' xs e) fr)];exact u.aaC b' xs e
  ·rw[ai (av (u.aaB b' o' u' e) fr)];exact u.aaB b' o' u' e
  ·obtain⟨m,q⟩:=u.aaI b' ps e;exact⟨m,by rw[ai (av q fr)];exact q⟩
 ·rw[ai (Nat.ne_of_lt (Nat.lt_of_lt_of_le I.lt hT))];exact I1.free
 ·obtain⟨v',q⟩:=I.cell x c e;rw[ai (Nat.ne_of_lt (Nat.lt_of_lt_of_le q.lt hT))];exact I1.aaz x c e
 ·obtain⟨e,n,r⟩:=I1.pin p hp;have lt:p.1<s.heap.objs.size:=Heap.lt_size (I.pin p hp).1;exact⟨e,by rw[ai (Nat.ne_of_lt (Nat.lt_of_lt_of_le lt hT))];exact n,r⟩
theorem Inv.abl {h':Heap}{t':Nat}{ch:List Addr}(I:Inv X pins σ H s)(k:∀b o,b∉ch->s.heap.get? b=some o->h'.get? b=some o)(hf:∀b∈ch,cf X pins H b):Inv X pins σ H {s with heap:=h',toks:=t'}:=by
 have JH:∀b u,H b=some u->b∉ch:=λb u e z=>by rw[(hf b z).1] at e;cases e
 refine I.step (g':=s.gens) (d':=s.drawn) (ch:=ch) (λb hb=>?_) (λb o _ _ hc e _=>k b o hc e) (λb o _ _ hc e _=>⟨o.slots,k b o hc e⟩) (λ_ _ _ _ n=>n)
  (λb o hc e=>⟨o,k b o hc e⟩) (λ_ _ e=>e) (λ_ _ _ e=>e) (λb ps e=>⟨#[],by rw[e];simp⟩) (λm hm=>?_) (λb u e=>?_) I.bare
 ·obtain⟨f0,f1,f2,f3,f4,f5⟩:=hf b hb;exact⟨f3,f1,f4,f5⟩
 ·obtain⟨o,es,ep,ho,r⟩:=hm;exact⟨o,es,ep,k _ o (λz=>(hf _ z).2.1 rfl) ho,r⟩
 ·refine(I.hok b u e).aaY (λc v hc q=>k c v ?_ q) (λ_ q=>q) λ_ _ q=>q
  rcases hc with z|z
  ·rw[z];exact JH b u e
  ·exact JH c _ z
end
noncomputable def Ex (K:Frag)(a:Addr):It :=
 ⟨λi H=>∃xs x,aY K H a xs/\xs[i]?=some x,λi H x H'=>∃T y,(∀xs,aY K H a xs->xs[i]?=some y)/\H T=none/\x=.ref T/\H'=upd H T (.tup [.int i,y]),λi H=>∃xs,aY K H a xs/\xs.length<=i⟩
theorem uH (a e it:Addr)(FX:e≠it):Turn P w K (.Tuple elts x1 tp) (Ex K a) [e,it] e (λi h=>∃old,IsEnum h e it i old/\h.IsListIter it a i) where
 mem:=by simp
 obj:=λi h st b hb=>by
  obtain⟨old,h1,o,h2,_,h3⟩:=st
  rcases(by simpa using hb:b=e\/b=it) with z|z
  ·subst z;exact⟨_,h1,λv z=>by cases z⟩
  ·subst z;exact⟨o,h2,λv z=>by rw[h3] at z;cases z⟩
 keep:=λi h h' st k=>let⟨old,h1,h2⟩:=st;⟨old,k e (by simp) _ h1,h2.at λo q=>k it (by simp) o q⟩
 item:=by
  intro X hP hw hK hc i pins s σ H E I hf st hg;subst hP hw hK;obtain⟨xs,x,hq,hx⟩:=hg;obtain⟨its,rv,p,hz⟩:=I.list hq;obtain⟨u,hu,ru⟩:=rv.get hx;obtain⟨old,he,hit⟩:=st;refine wpAny_pyNext_enum_item he hit p.isList (x:=u) (by simpa using hu) FX λh' q1 q2 q3 q4 q5=>?_;refine⟨_,rfl,wpAny_letOwnedTupleGo_enum (s:={s with heap:=h',toks:=s.toks+1}) q1 λh2 q6 q7=>?_⟩;have Ue:s.heap.objs.size≠e:=Nat.ne_of_gt (Heap.lt_size he)
  have I1:Inv X pins σ H {s with heap:=h2,toks:=s.toks+1}:=I.abl (t':=s.toks+1) (ch:=[e,it]) (λb o hb z=>by
   have Gf:b≠e/\b≠it:=by simpa using hb
   exact(q7.2 b Gf.1).trans (q5 b o Gf.1 Gf.2 z)) hf
  have tup:h2.get? s.heap.objs.size=some {cls:=.type "tuple",data:=.seq #[.int i s.toks,u]}:=(q7.2 _ Ue).trans q3;have fr:H s.heap.objs.size=none:=I.hok.fresh (Nat.le_refl _);have I2:=I.ab5 (xs:=[.int i,x]) (its:=[.int i s.toks,u]) I1 (Nat.le_refl _) tup (.cons ⟨_,rfl⟩ (.cons ru .nil)) BJ;refine⟨.ref s.heap.objs.size,_,I2,rfl,⟨s.heap.objs.size,x,λys hy=>by rw[I.aa9 hy hq];exact hx,fr,rfl,rfl⟩,⟨u,q6,q2.at λo q=>(q7.2 _ (Ne.symm FX)).trans q⟩,λb hb=>?_⟩
  have nb:b≠s.heap.objs.size:=by
   rcases(by simpa using hb:b=e\/b=it) with z|z
   ·subst z;exact Ne.symm Ue
   ·subst z;obtain⟨o,q,_⟩:=hit;exact Nat.ne_of_lt (Heap.lt_size q)
  rw[ai nb];exact(hf b hb).1
 done:=by
  intro X hP hw hK hc i pins s σ H E I hf st hg;subst hP hw hK;obtain⟨xs,hq,hx⟩:=hg;obtain⟨its,rv,p,hz⟩:=I.list hq;have hl:=rv.length;obtain⟨old,he,hit⟩:=st;obtain⟨f0,f1,f2,f3,f4,f5⟩:=hf it (by simp);exact wpAny_pyNext_enum_end (I.ok.hd hc) he hit p.isList (by simp;omega) λh' eb=>⟨rfl,I.turned (t':=s.toks) (λb o hb e=>eb b o hb e) f0 f1 f3 f4 f5⟩
 self:=λ_ _ _ _ _ st h=>let⟨old,h1,_⟩:=st;wpAny_pyIter_enum h1 h
noncomputable def C6 (K:Frag)(tl:TE):TI:=λσ H R=>eC tl E1 σ H λvs H1=>∃a xs,vs=[.ref a]/\aY K H1 a xs/\R (Ex K a) H1
theorem Al {X:Cx}{l:Expr}{tl:TE}{p pos:Pos}(hl:PE X l tl)(hg:Gl X "enumerate")(hm:X.mg "enumerate"=none)(hs:gO l=false:=by rfl):
 PI X (.Tuple elts x1 tp) (.Call (.Name "enumerate" p) [l] [] pos) (C6 X.K tl):=by
 intro pins s σ H R I h;refine wpAny_Call_Name_kw (gP I hg hm (by rfl) ?_ (by decide) (by decide));refine PyProof.Rows.callWith_type1 (bp (aq hl ah hs pos pins s σ H _ I h) λus s1 z'=>?_) (cx hs) rfl;obtain⟨vs,H1,I1,r1,a,xs,hv,hq,rr⟩:=z';subst hv;obtain⟨u,rfl,ru⟩:=fE r1
 cases(show u=Value.ref a from ru)
 obtain⟨its,rv,pl,hz⟩:=I1.list hq;refine call_enumerate_list pl.isList λh' q1 q2 q3 q4=>?_;have I2:Inv X pins σ H1 {s1 with heap:=h'}:=I1.kept (t':=s1.toks) q4;refine wpAny_pyIter_enum (s:={s1 with heap:=h'}) q1 ?_;refine⟨s1.heap.objs.size+1,[s1.heap.objs.size+1,s1.heap.objs.size],_,Ex X.K a,H1,rfl,I2,uH a _ _ (Nat.succ_ne_self _),⟨_,q1,q2⟩,λb hb=>?_,rr⟩
 have Gf:s1.heap.objs.size<=b:=by
  rcases(by simpa using hb:b=s1.heap.objs.size+1\/b=s1.heap.objs.size) with z|z
  ·rw[z];exact Nat.le_succ _
  ·rw[z];exact Nat.le_refl _
 exact I1.aa4 Gf (I1.hok.fresh Gf)
end L2
namespace Zp
open PySem PyProof.Rows
section
variable {prog:vQ}{w:World}{A:Around}{E:yg}{s:Fp}
theorem kZ {it t:Addr}{i:Nat}{items:Cm}{x:Value}{Q:yg}(hit:s.heap.IsTupleIter it t i)(ht:s.heap.IsTuple t items)(hx:items[i]?=some x)
 (hQ:∀h',h'.IsTupleIter it t (i+1)->Heap.SameBut it s.heap h'->Q x {s with heap:=h'}):wpAny (model prog w) A (Builtin.SmallTypes.nextOf (.ref it)) Q E s:=by
 obtain⟨o,ho,hc,hd⟩:=id hit;obtain⟨ol,K1,_,nl,K2⟩:=ht;unfold Builtin.SmallTypes.nextOf;refine wpAny_bind (wpAny_callSpecial?_slot (name:=Str.ofString "__next__") hit.typeIs F.slot_tuple_iterator_next (wpAny_call_entry F.slot_tuple_iterator_next hit.typeIs F.entry_tuple_iterator_next ?_ (F.args_tuple_iterator_next_1 _)));show wpAny _ _ (field (.ref it) 0>>=_) _ _ s;refine wpAny_bind (wpAny_field ho hd (x:=.ref t) rfl ?_);show wpAny _ _ (if(Value.ref t==Value.none)=true then _ else _) _ _ s;rw[if_neg (show ¬((Value.ref t==Value.none)=true) from Bool.false_ne_true)];show wpAny _ _ (field (.ref it) 1>>=_) _ _ s;refine wpAny_bind (wpAny_field ho hd (x:=.int i 0) rfl ?_);show wpAny _ _ (seqItems? (.ref t)>>=_) _ _ s;refine wpAny_bind (wpAny_seqItems K1 K2 ?_);simp only[Int.toNat_natCast,hx];refine wpAny_bind (wpAny_setField ho hd (by simp) (wpAny_pure ⟨x,rfl,wpAny_pure (hQ _ ?_ (Heap.SameBut.update ..))⟩));exact⟨_,Heap.get?_update_self _ ho (Obj.isFreed_of_fields (Obj.data_mapFields hd _)),(Obj.cls_mapFields ..).trans hc,by rw[Obj.data_mapFields hd];simp[rawInt]⟩
theorem uh {it t:Addr}{i:Nat}{items:Cm}{Q:yg}(hh:A.handled=none)(hit:s.heap.IsTupleIter it t i)(ht:s.heap.IsTuple t items)(hx:items[i]?=none)
 (hE:∀h' e,Heap.ExtBut it s.heap h'->(∃o,h'.get? e=some o/\o.cls=.type "StopIteration")->E (.ref e) {s with heap:=h'}):wpAny (model prog w) A (Builtin.SmallTypes.nextOf (.ref it)) Q E s:=by
 obtain⟨o,ho,hc,hd⟩:=id hit;obtain⟨ol,K1,_,nl,K2⟩:=ht;unfold Builtin.SmallTypes.nextOf;refine wpAny_bind (wpAny_callSpecial?_slot (name:=Str.ofString "__next__") hit.typeIs F.slot_tuple_iterator_next (wpAny_call_entry F.slot_tuple_iterator_next hit.typeIs F.entry_tuple_iterator_next ?_ (F.args_tuple_iterator_next_1 _)));show wpAny _ _ (field (.ref it) 0>>=_) _ _ s;refine wpAny_bind (wpAny_field ho hd (x:=.ref t) rfl ?_);show wpAny _ _ (if(Value.ref t==Value.none)=true then _ else _) _ _ s;rw[if_neg (show ¬((Value.ref t==Value.none)=true) from Bool.false_ne_true)];show wpAny _ _ (field (.ref it) 1>>=_) _ _ s;refine wpAny_bind (wpAny_field ho hd (x:=.int i 0) rfl ?_);show wpAny _ _ (seqItems? (.ref t)>>=_) _ _ s;refine wpAny_bind (wpAny_seqItems K1 K2 ?_);simp only[Int.toNat_natCast,hx];refine wpAny_bind (wpAny_rule (wpAny_bind (wpAny_setField ho hd (by simp) ?_)));show wpAny _ _ (newExc (.type "StopIteration") []>>=_) _ _ _;refine wpAny_bind ?_;simp only[newExc,newTuple];refine wpAny_bind (wpAny_newObj_type ?_ (by size_fits));refine wpAny_bind (m:=firstArgMember _ _) (wpAny_of_eq (a:=Value.none) (by first|rfl|(simp only[firstArgMember];rfl)) ?_);refine wpAny_newObj_type ?_ (by size_fits);simp only[raiseNew];refine wpAny_bind (wpAny_handled ?_)
 first|rw[show A.in1.handled=none from hh]|rw[hh]
 refine wpAny_bind (wpAny_pure (wpAny_throw ?_));exact hE _ _ (((Heap.SameBut.update ..).extBut.push _).push _) ⟨_,Heap.get?_push_size _ rfl,rfl⟩
end
structure Apart (z TI TO i1 i2 l1 l2:Addr):Prop where
 TIz:TI≠z
 TOz:TO≠z
 i1z:i1≠z
 i2z:i2≠z
 TITO:TI≠TO
 TIi1:TI≠i1
 TIi2:TI≠i2
 TOi1:TO≠i1
 TOi2:TO≠i2
 i12:i1≠i2
 l1n:l1 ∉ [z,TO,i1,i2]
 l2n:l2 ∉ [z,TO,i1,i2]
structure Zs (h:Heap)(z TI TO i1 i2 l1 l2:Addr)(k:Nat):Prop where
 hz:IsZip h z TI TO .none
 hTI:IsPair h TI (.ref i1) (.ref i2)
 Pa:∃a b,IsPair h TO a b
 h1:h.IsTupleIter i1 l1 k
 h2:h.IsTupleIter i2 l2 k
theorem gy {h h':Heap}{i l:Addr}{k:Nat}(x:h.IsTupleIter i l k)(q:∀o,h.get? i=some o->h'.get? i=some o):h'.IsTupleIter i l k:=let⟨o,a,b⟩:=x;⟨o,q o a,b⟩
section
variable {prog:vQ}{w:World}{A:Around}{E:yg}{s:Fp}{z TI TO i1 i2 l1 l2:Addr}{k:Nat}{xs ys:Cm}{x y:Value}
theorem item {Q:yg}(D:Apart z TI TO i1 i2 l1 l2)(Z:Zs s.heap z TI TO i1 i2 l1 l2 k)(HC:s.heap.IsTuple l1 xs)(Hw:s.heap.IsTuple l2 ys)(hx:xs[k]?=some x)(hy:ys[k]?=some y)
 (hQ:∀h',IsZip h' z TI TO (rawInt s.heap.objs.size)->(∃a b,IsPair h' TO a b)->h'.IsTupleIter i1 l1 (k+1)->h'.IsTupleIter i2 l2 (k+1)->IsPair h' s.heap.objs.size x y →
  (∀c o,c ∉ [z,TO,i1,i2]->s.heap.get? c=some o->h'.get? c=some o)->Q (.ref s.heap.objs.size) {s with heap:=h'}):
 wpAny (model prog w) A (Builtin.«zip.__next__» ⟨[.ref z],[]⟩) (λfin s'=>∃v,fin=.done (.ret v)/\Q v s') E s:=by
 obtain⟨hz,hTI,⟨a,b,Pa⟩,h1,h2⟩:=Z
 have n1:l1≠z/\l1≠TO/\l1≠i1/\l1≠i2:=by simpa using D.l1n
 have n2:l2≠z/\l2≠TO/\l2≠i1/\l2≠i2:=by simpa using D.l2n
 show wpAny _ _ (field (.ref z) 2>>=_) _ _ _;refine wpAny_bind (wpAny_field hz rfl (x:=.bool false) rfl ?_);show wpAny _ _ (field (.ref z) 3>>=_) _ _ _;refine wpAny_bind (wpAny_field hz rfl (x:=.ref TI) rfl ?_);refine wpAny_bind (wpAny_seqItems hTI rfl ?_);show wpAny _ _ (Builtin.SmallTypes.ownedTupleIsFree (.ref z)>>=_) _ _ _;refine wpAny_bind ?_;unfold Builtin.SmallTypes.ownedTupleIsFree;refine wpAny_bind (wpAny_field hz rfl (x:=.none) rfl (wpAny_pure ?_));simp only[if_true];refine wpAny_bind (wpAny_rule ?_);refine wpAny_bind (wpAny_field hz rfl (x:=.ref TO) rfl ?_);refine wpAny_bind (wpAny_setField_rec hz (by simp) λg1 JY s1=>?_)
 replace JY:IsZip g1 z TI TO .ellipsis:=JY
 refine wpAny_bind ?_;simp only[List.zipIdx_cons,List.zipIdx_nil,List.forIn_cons,List.forIn_nil];refine wpAny_bind (wpAny_bind (wpAny_onRaise ?_));show wpAny _ _ (Builtin.SmallTypes.nextOf (.ref i1)>>=_) _ _ _;refine wpAny_bind (kZ (h1.extBut s1.extBut D.i1z) (HC.extBut s1.extBut n1.1) hx λg2 a2 s2=>wpAny_pure ?_);have t2:IsPair g2 TO a b:=s2.extBut _ _ D.TOi1 (s1.extBut _ _ D.TOz Pa);refine wpAny_bind (wpAny_seqItems t2 rfl ?_);refine wpAny_bind (wpAny_updateSeq_pair t2 λg3 t3 s3=>?_)
 replace t3:IsPair g3 TO x b:=t3
 refine wpAny_bind (wpAny_letGo (wpAny_pure ?_));refine wpAny_bind (wpAny_bind (wpAny_onRaise ?_));show wpAny _ _ (Builtin.SmallTypes.nextOf (.ref i2)>>=_) _ _ _;refine wpAny_bind (kZ (((h2.extBut s1.extBut D.i2z).extBut s2.extBut D.i12.symm).extBut s3.extBut D.TOi2.symm) (((Hw.extBut s1.extBut n2.1).extBut s2.extBut n2.2.2.1).extBut s3.extBut n2.2.1) hy λg4 a4 s4=>wpAny_pure ?_);have t4:IsPair g4 TO x b:=s4.extBut _ _ D.TOi2 t3;refine wpAny_bind (wpAny_seqItems t4 rfl ?_);refine wpAny_bind (wpAny_updateSeq_pair t4 λg5 t5 s5=>?_)
 replace t5:IsPair g5 TO x y:=t5
 refine wpAny_bind (wpAny_letGo (wpAny_pure (wpAny_pure ?_)));refine wpAny_bind (wpAny_seqItems t5 rfl ?_);refine wpAny_bind (wpAny_newTuple ?_)
 have sz:g5.objs.size=s.heap.objs.size:=by rw[s5.1,s4.1,s3.1,s2.1,s1.1]
 have z5:IsZip g5 z TI TO .ellipsis:=s5.extBut _ _ D.TOz.symm (s4.extBut _ _ D.i2z.symm (s3.extBut _ _ D.TOz.symm (s2.extBut _ _ D.i1z.symm JY)))
 have k5:∀c o,c ∉ [z,TO,i1,i2]->s.heap.get? c=some o->g5.get? c=some o:=λc o hc e=>by
  have F1:c≠z/\c≠TO/\c≠i1/\c≠i2:=by simpa using hc
  exact s5.extBut _ _ F1.2.1 (s4.extBut _ _ F1.2.2.2 (s3.extBut _ _ F1.2.1 (s2.extBut _ _ F1.2.2.1 (s1.extBut _ _ F1.1 e))))
 have a5:g5.IsTupleIter i1 l1 (k+1):=((a2.extBut s3.extBut D.TOi1.symm).extBut s4.extBut D.i12).extBut s5.extBut D.TOi1.symm;have b5:g5.IsTupleIter i2 l2 (k+1):=a4.extBut s5.extBut D.TOi2.symm;have Ug:z<g5.objs.size:=Heap.lt_size z5;show wpAny _ _ (Builtin.SmallTypes.ownedTupleHandOut (.ref z) (.ref g5.objs.size)>>=_) _ _ _;refine wpAny_bind ?_;unfold Builtin.SmallTypes.ownedTupleHandOut;have z6:IsZip (g5.push {cls:=.type "tuple",data:=.seq #[x,y]}) z TI TO .ellipsis:=Heap.get?_push_of_some _ z5;refine wpAny_bind (wpAny_setField_rec z6 (by simp) λg7 z7 s7=>?_)
 replace z7:IsZip g7 z TI TO (rawInt g5.objs.size):=z7
 refine wpAny_setField_rec z7 (by simp) λg8 z8 s8=>?_
 replace z8:IsZip g8 z TI TO (rawInt g5.objs.size):=z8
 have up:∀c o,c≠z->g5.get? c=some o->g8.get? c=some o:=λc o c1 e=>s8.extBut _ _ c1 (s7.extBut _ _ c1 (Heap.get?_push_of_some _ e));have t8:IsPair g8 g5.objs.size x y:=s8.extBut _ _ (Nat.ne_of_gt Ug) (s7.extBut _ _ (Nat.ne_of_gt Ug) (Heap.get?_push_size _ rfl));rw[sz] at z8 t8;refine wpAny_pure ⟨_,rfl,?_⟩;show Q (.ref g5.objs.size) _;rw[sz];exact hQ g8 z8 ⟨x,y,up _ _ D.TOz t5⟩ (gy a5 λo e=>up _ o D.i1z e) (gy b5 λo e=>up _ o D.i2z e) t8 λc o hc e=>up c o (λq=>hc (by simp[q])) (k5 c o hc e)
theorem EC {Q:Fin->Shared->Prop}(hh:A.handled=none)(D:Apart z TI TO i1 i2 l1 l2)(Z:Zs s.heap z TI TO i1 i2 l1 l2 k)(HC:s.heap.IsTuple l1 xs)(Hw:s.heap.IsTuple l2 ys)(K3:xs[k]?=none\/ys[k]?=none)
 (hE:∀h' e,(∀c o,c ∉ [z,TO,i1,i2]->s.heap.get? c=some o->h'.get? c=some o)->(∃o,h'.get? e=some o/\o.cls=.type "StopIteration")->E (.ref e) {s with heap:=h'}):
 wpAny (model prog w) A (Builtin.«zip.__next__» ⟨[.ref z],[]⟩) Q E s:=by
 obtain⟨hz,hTI,⟨a,b,Pa⟩,h1,h2⟩:=Z
 have n1:l1≠z/\l1≠TO/\l1≠i1/\l1≠i2:=by simpa using D.l1n
 have n2:l2≠z/\l2≠TO/\l2≠i1/\l2≠i2:=by simpa using D.l2n
 show wpAny _ _ (field (.ref z) 2>>=_) _ _ _;refine wpAny_bind (wpAny_field hz rfl (x:=.bool false) rfl ?_);show wpAny _ _ (field (.ref z) 3>>=_) _ _ _;refine wpAny_bind (wpAny_field hz rfl (x:=.ref TI) rfl ?_);refine wpAny_bind (wpAny_seqItems hTI rfl ?_);show wpAny _ _ (Builtin.SmallTypes.ownedTupleIsFree (.ref z)>>=_) _ _ _;refine wpAny_bind ?_;unfold Builtin.SmallTypes.ownedTupleIsFree;refine wpAny_bind (wpAny_field hz rfl (x:=.none) rfl (wpAny_pure ?_));simp only[if_true];refine wpAny_bind (wpAny_rule ?_);refine wpAny_bind (wpAny_field hz rfl (x:=.ref TO) rfl ?_);refine wpAny_bind (wpAny_setField_rec hz (by simp) λg1 JY s1=>?_)
 replace JY:IsZip g1 z TI TO .ellipsis:=JY
 refine wpAny_bind ?_;simp only[List.zipIdx_cons,List.zipIdx_nil,List.forIn_cons,List.forIn_nil];refine wpAny_bind (wpAny_bind (wpAny_onRaise ?_));show wpAny _ _ (Builtin.SmallTypes.nextOf (.ref i1)>>=_) _ _ _
 cases hx:xs[k]? with
 |none =>
  refine wpAny_bind (uh hh (h1.extBut s1.extBut D.i1z) (HC.extBut s1.extBut n1.1) hx λg2 e s2 he=>?_);obtain⟨oe,Ii,MB⟩:=he;have z2:IsZip g2 z TI TO .ellipsis:=s2 _ _ D.i1z.symm JY
  have ez:e≠z:=λq=>by subst q;rw[z2] at Ii;cases Ii;simp at MB
  refine wpAny_setField_rec z2 (by simp) λg3 _ s3=>hE g3 e (λc o hc q=>?_) ⟨oe,s3.extBut _ _ ez Ii,MB⟩
  have F1:c≠z/\c≠TO/\c≠i1/\c≠i2:=by simpa using hc
  exact s3.extBut _ _ F1.1 (s2 _ _ F1.2.2.1 (s1.extBut _ _ F1.1 q))
 |some x =>
  have hy:ys[k]?=none:=by
   rcases K3 with h|h
   ·rw[hx] at h;cases h
   ·exact h
  refine wpAny_bind (kZ (h1.extBut s1.extBut D.i1z) (HC.extBut s1.extBut n1.1) hx λg2 a2 s2=>wpAny_pure ?_);have t2:IsPair g2 TO a b:=s2.extBut _ _ D.TOi1 (s1.extBut _ _ D.TOz Pa);refine wpAny_bind (wpAny_seqItems t2 rfl ?_);refine wpAny_bind (wpAny_updateSeq_pair t2 λg3 t3 s3=>?_);refine wpAny_bind (wpAny_letGo (wpAny_pure ?_));refine wpAny_bind (wpAny_bind (wpAny_onRaise ?_));show wpAny _ _ (Builtin.SmallTypes.nextOf (.ref i2)>>=_) _ _ _;refine wpAny_bind (uh hh (((h2.extBut s1.extBut D.i2z).extBut s2.extBut D.i12.symm).extBut s3.extBut D.TOi2.symm) (((Hw.extBut s1.extBut n2.1).extBut s2.extBut n2.2.2.1).extBut s3.extBut n2.2.1) hy λg4 e s4 he=>?_);obtain⟨oe,Ii,MB⟩:=he;have z4:IsZip g4 z TI TO .ellipsis:=s4 _ _ D.i2z.symm (s3.extBut _ _ D.TOz.symm (s2.extBut _ _ D.i1z.symm JY))
  have ez:e≠z:=λq=>by subst q;rw[z4] at Ii;cases Ii;simp at MB
  refine wpAny_setField_rec z4 (by simp) λg5 _ s5=>hE g5 e (λc o hc q=>?_) ⟨oe,s5.extBut _ _ ez Ii,MB⟩
  have F1:c≠z/\c≠TO/\c≠i1/\c≠i2:=by simpa using hc
  exact s5.extBut _ _ F1.1 (s4 _ _ F1.2.2.2 (s3.extBut _ _ F1.2.1 (s2.extBut _ _ F1.2.2.1 (s1.extBut _ _ F1.1 q))))
theorem vx {Q:Option Value->Shared->Prop}(D:Apart z TI TO i1 i2 l1 l2)(Z:Zs s.heap z TI TO i1 i2 l1 l2 k)(HC:s.heap.IsTuple l1 xs)(Hw:s.heap.IsTuple l2 ys)(hx:xs[k]?=some x)(hy:ys[k]?=some y)
 (hQ:∀h',IsZip h' z TI TO (rawInt s.heap.objs.size)->(∃a b,IsPair h' TO a b)->h'.IsTupleIter i1 l1 (k+1)->h'.IsTupleIter i2 l2 (k+1)->IsPair h' s.heap.objs.size x y →
  (∀c o,c ∉ [z,TO,i1,i2]->s.heap.get? c=some o->h'.get? c=some o)->Q (some (.ref s.heap.objs.size)) {s with heap:=h'}):
 wpAny (model prog w) A (pyNext (.ref z)) Q E s:=by
 have hT:s.TypeIs (.ref z) "zip":=⟨_,Z.hz,rfl⟩;unfold pyNext
 exact wpAny_bind (wpAny_attempt (wpAny_callSpecial?_slot (name:=Str.ofString "__next__") hT F.slot_zip_next
  (wpAny_call_entry F.slot_zip_next hT F.entry_zip_next (item D Z HC Hw hx hy λh' a1 a2 a3 a4 a5 a6=>wpAny_pure (hQ h' a1 a2 a3 a4 a5 a6)) (F.args_zip_next_1 _))))
theorem vm {Q:Option Value->Shared->Prop}(hh:A.handled=none)(D:Apart z TI TO i1 i2 l1 l2)(Z:Zs s.heap z TI TO i1 i2 l1 l2 k)(HC:s.heap.IsTuple l1 xs)(Hw:s.heap.IsTuple l2 ys)(K3:xs[k]?=none\/ys[k]?=none)
 (hQ:∀h',(∀c o,c ∉ [z,TO,i1,i2]->s.heap.get? c=some o->h'.get? c=some o)->Q none {s with heap:=h'}):wpAny (model prog w) A (pyNext (.ref z)) Q E s:=by
 have hT:s.TypeIs (.ref z) "zip":=⟨_,Z.hz,rfl⟩;unfold pyNext
 refine wpAny_bind (wpAny_attempt (wpAny_callSpecial?_slot (name:=Str.ofString "__next__") hT F.slot_zip_next
  (wpAny_call_entry F.slot_zip_next hT F.entry_zip_next (EC hh D Z HC Hw K3 λh' e hk he=>?_) (F.args_zip_next_1 _))))
 obtain⟨o,ho,hc⟩:=he;refine wpAny_bind (wpAny_isInstance (T:="StopIteration") (b:=true) ⟨o,ho,hc⟩ isSubtype_stop ?_);exact wpAny_pure (hQ _ hk)
end
noncomputable abbrev g1 (h:Heap)(l1:Addr):Heap:=h.push {cls:=.type "tuple_iterator",data:=.fields #[.ref l1,.int 0 0]}
noncomputable abbrev g2 (h:Heap)(l1 l2:Addr):Heap:=(g1 h l1).push {cls:=.type "tuple_iterator",data:=.fields #[.ref l2,.int 0 0]}
noncomputable abbrev g3 (h:Heap)(l1 l2:Addr):Heap:=(g2 h l1 l2).push {cls:=.type "tuple",data:=.seq #[.ref h.objs.size,.ref (g1 h l1).objs.size]}
noncomputable abbrev g4 (h:Heap)(l1 l2:Addr):Heap:=(g3 h l1 l2).push {cls:=.type "tuple",data:=.seq #[.none,.none]}
noncomputable abbrev g5 (h:Heap)(l1 l2:Addr):Heap:=(g4 h l1 l2).push {cls:=.type "zip",data:=.fields #[.none,.bool false,.bool false,.ref (g2 h l1 l2).objs.size,.ref (g3 h l1 l2).objs.size]}
theorem vg (l1 l2:Addr)(xs ys:Cm):
 Meets (Builtin.«zip.__new__» ⟨[.type "zip",.ref l1,.ref l2],[]⟩) (λ_ R s=>s.heap.IsTuple l1 xs/\s.heap.IsTuple l2 ys/\R (.ok (.ret (.ref (g4 s.heap l1 l2).objs.size))) {s with heap:=g5 s.heap l1 l2}):=
 .of_wp λprog w A R s h=>by
  obtain⟨hp,g,d,tk,os⟩:=s;obtain⟨HC,Hw,h⟩:=h;have WE:=sub_zip;have WG:Heap.IsTuple (Shared.heap ⟨hp,g,d,tk,os⟩) l1 xs:=HC;have WH:Heap.IsTuple (Shared.heap ⟨hp.push {cls:=.type "tuple_iterator",data:=.fields #[.ref l1,.int 0 0]},g,d,tk,os⟩) l2 ys:=Heap.IsTuple.push Hw _
  wp_walk using wpAny_pyIter_tuple WG,wpAny_pyIter_tuple WH
  exact⟨_,rfl,h⟩
section
variable {prog:vQ}{w:World}{A:Around}{E:yg}{s:Fp}
theorem Dv {l1 l2:Addr}{xs ys:Cm}{Q:yg}(HC:s.heap.IsTuple l1 xs)(Hw:s.heap.IsTuple l2 ys)
 (h:∀h',Zs h' (s.heap.objs.size+4) (s.heap.objs.size+2) (s.heap.objs.size+3) s.heap.objs.size (s.heap.objs.size+1) l1 l2 0->(∀c o,s.heap.get? c=some o->h'.get? c=some o)->Q (.ref (s.heap.objs.size+4)) {s with heap:=h'}):
 wpAny (model prog w) A (call (.type "zip") [.ref l1,.ref l2]) Q E s:=by
 refine callType_new F.called_zip (by decide) (F.typeCall_zip_2 _ _) (F.newCall_zip_2 _ _) (λobj=>F.args_object_init_3 obj _ _) F.entry_zip_new (vg l1 l2 xs ys) ⟨HC,Hw,?_⟩;have z1:(g1 s.heap l1).objs.size=s.heap.objs.size+1:=Heap.size_push ..
 have z2:(g2 s.heap l1 l2).objs.size=s.heap.objs.size+2:=by rw[Heap.size_push,z1]
 have z3:(g3 s.heap l1 l2).objs.size=s.heap.objs.size+3:=by rw[Heap.size_push,z2]
 have z4:(g4 s.heap l1 l2).objs.size=s.heap.objs.size+4:=by rw[Heap.size_push,z3]
 have q5:(g5 s.heap l1 l2).get? (g4 s.heap l1 l2).objs.size=some _:=Heap.get?_push_size _ rfl;have q4:(g5 s.heap l1 l2).get? (g3 s.heap l1 l2).objs.size=some _:=Heap.get?_push_of_some _ (Heap.get?_push_size _ rfl);have q3:(g5 s.heap l1 l2).get? (g2 s.heap l1 l2).objs.size=some _:=Heap.get?_push_of_some _ (Heap.get?_push_of_some _ (Heap.get?_push_size _ rfl));have q2:(g5 s.heap l1 l2).get? (g1 s.heap l1).objs.size=some _:=Heap.get?_push_of_some _ (Heap.get?_push_of_some _ (Heap.get?_push_of_some _ (Heap.get?_push_size _ rfl)));have q1:(g5 s.heap l1 l2).get? s.heap.objs.size=some _:=Heap.get?_push_of_some _ (Heap.get?_push_of_some _ (Heap.get?_push_of_some _ (Heap.get?_push_of_some _ (Heap.get?_push_size _ rfl))));show _/\_;rw[z2,z3,z4] at q5;rw[z1,z2] at q3;rw[z3] at q4;rw[z1] at q2;rw[z4];exact⟨⟨_,q5,rfl⟩,h _ ⟨q5,q3,⟨_,_,q4⟩,⟨_,q1,rfl,rfl⟩,⟨_,q2,rfl,rfl⟩⟩ λc o e=>Heap.get?_push_of_some _ (Heap.get?_push_of_some _ (Heap.get?_push_of_some _ (Heap.get?_push_of_some _ (Heap.get?_push_of_some _ e))))⟩
end
theorem cj {a b:Nat}(h:a≠b):(a:Addr)≠b:=h
theorem yf (n a b:Nat)(ha:a<n)(hb:b<n):Apart (n+4) (n+2) (n+3) n (n+1) a b:=by
 refine⟨cj ?_,cj ?_,cj ?_,cj ?_,cj ?_,cj ?_,cj ?_,cj ?_,cj ?_,cj ?_,?_,?_⟩
 any_goals omega
 ·simp only[List.mem_cons,List.not_mem_nil,or_false,not_or];exact⟨cj (by omega),cj (by omega),cj (by omega),cj (by omega)⟩
 ·simp only[List.mem_cons,List.not_mem_nil,or_false,not_or];exact⟨cj (by omega),cj (by omega),cj (by omega),cj (by omega)⟩
end Zp
namespace L2
open PySem PySem.Spec PyProof.Rows PySem.W
noncomputable def DT (K:Frag)(a b:Addr):It :=
 ⟨λi H=>∃xs ys x y,bf K H a xs/\bf K H b ys/\xs[i]?=some x/\ys[i]?=some y,
  λi H v H'=>∃T x y,(∀xs,bf K H a xs->xs[i]?=some x)/\(∀ys,bf K H b ys->ys[i]?=some y)/\H T=none/\v=.ref T/\H'=upd H T (.tup [x,y]),
  λi H=>∃xs ys,bf K H a xs/\bf K H b ys/\(xs.length<=i\/ys.length<=i)⟩
theorem xW {P:vQ}{w:World}{K:Frag}{elts:Bo}{x1:Nat}{tp:Pos}{a b z TI TO i1 i2:Addr}(D:Zp.Apart z TI TO i1 i2 a b):
 Turn P w K (.Tuple elts x1 tp) (DT K a b) [z,TO,i1,i2,TI] z (λi h=>Zp.Zs h z TI TO i1 i2 a b i) where
 mem:=by simp
 obj:=λi h st c hb=>by
  obtain⟨h1,h2,⟨_,_,h3⟩,⟨o4,h4,_,d4⟩,⟨o5,h5,_,d5⟩⟩:=st
  rcases(by simpa using hb:c=z\/c=TO\/c=i1\/c=i2\/c=TI) with q|q|q|q|q
  ·subst q;exact⟨_,h1,λv q=>by cases q⟩
  ·subst q;exact⟨_,h3,λv q=>by cases q⟩
  ·subst q;exact⟨_,h4,λv q=>by rw[d4] at q;cases q⟩
  ·subst q;exact⟨_,h5,λv q=>by rw[d5] at q;cases q⟩
  ·subst q;exact⟨_,h2,λv q=>by cases q⟩
 keep:=λi h h' st k=>by
  obtain⟨h1,h2,⟨_,_,h3⟩,h4,h5⟩:=st;exact⟨k z (by simp) _ h1,k TI (by simp) _ h2,⟨_,_,k TO (by simp) _ h3⟩,Zp.gy h4 λo q=>k i1 (by simp) o q,Zp.gy h5 λo q=>k i2 (by simp) o q⟩
 item:=by
  intro X hP hw hK hc i pins s σ H E I hf st hg;subst hP hw hK;obtain⟨xs,ys,x,y,hq,hr,hx,hy⟩:=hg;obtain⟨its,rv,p,hz⟩:=I.tuple hq;obtain⟨MC,GI,p',Uh⟩:=I.tuple hr;obtain⟨u,hu,ru⟩:=rv.get hx;obtain⟨v,hv,QH⟩:=GI.get hy;refine Zp.vx D st (show s.heap.IsTuple a its.toArray from p) (show s.heap.IsTuple b MC.toArray from p') (x:=u) (y:=v) (by simpa using hu) (by simpa using hv) λh' q1 q2 q3 q4 q5 q6=>?_;refine⟨_,rfl,wpAny_letOwnedTupleGo_zip (s:={s with heap:=h'}) q1 λh2 q7 q8=>?_⟩;have lt:∀c o,s.heap.get? c=some o->c≠s.heap.objs.size:=λc o e=>Nat.ne_of_lt (Heap.lt_size e)
  have I1:Inv X pins σ H {s with heap:=h2}:=I.abl (t':=s.toks) (ch:=[z,TO,i1,i2]) (λc o hc e=>(q8.2 c λq=>hc (by simp[q])).trans (q6 c o hc e)) λc hc=>hf c (by
   rcases(by simpa using hc:c=z\/c=TO\/c=i1\/c=i2) with q|q|q|q <;> simp[q])
  have nz:s.heap.objs.size≠z:=Ne.symm (lt z _ st.hz);have tup:h2.get? s.heap.objs.size=some {cls:=.type "tuple",data:=.seq #[u,v]}:=(q8.2 _ nz).trans q5;have fr:H s.heap.objs.size=none:=I.hok.fresh (Nat.le_refl _);have I2:=I.ab5 (xs:=[x,y]) (its:=[u,v]) I1 (Nat.le_refl _) tup (.cons ru (.cons QH .nil)) BJ;have up:∀c o,c≠z->h'.get? c=some o->h2.get? c=some o:=λc o hc e=>(q8.2 c hc).trans e;obtain⟨aa,bb,q2⟩:=q2;have QI:IsPair h' TI (.ref i1) (.ref i2):=q6 TI _ (by simp only[List.mem_cons,List.not_mem_nil,or_false,not_or];exact⟨D.TIz,D.TITO,D.TIi1,D.TIi2⟩) st.hTI
  refine⟨.ref s.heap.objs.size,_,I2,rfl,⟨s.heap.objs.size,x,y,λzs QJ=>by rw[I.aaT QJ hq];exact hx,λzs QJ=>by rw[I.aaT QJ hr];exact hy,fr,rfl,rfl⟩,
   ⟨q7,up _ _ D.TIz QI,⟨aa,bb,up _ _ D.TOz q2⟩,Zp.gy q3 λo e=>up _ o D.i1z e,Zp.gy q4 λo e=>up _ o D.i2z e⟩,λc hb=>?_⟩
  have nb:c≠s.heap.objs.size:=by
   obtain⟨h1,h2,⟨_,_,h3⟩,⟨o4,h4,_,d4⟩,⟨o5,h5,_,d5⟩⟩:=st
   rcases(by simpa using hb:c=z\/c=TO\/c=i1\/c=i2\/c=TI) with q|q|q|q|q <;> subst q
   ·exact lt _ _ h1
   ·exact lt _ _ h3
   ·exact lt _ _ h4
   ·exact lt _ _ h5
   ·exact lt _ _ h2
  rw[ai nb];exact(hf c hb).1
 done:=by
  intro X hP hw hK hc i pins s σ H E I hf st hg;subst hP hw hK;obtain⟨xs,ys,hq,hr,hx⟩:=hg;obtain⟨its,rv,p,hz⟩:=I.tuple hq;obtain⟨MC,GI,p',Uh⟩:=I.tuple hr;have l1:=rv.length;have l2:=GI.length
  refine Zp.vm (I.ok.hd hc) D st (show s.heap.IsTuple a its.toArray from p) (show s.heap.IsTuple b MC.toArray from p') (by
   rcases hx with q|q
   ·left;simp;omega
   ·right;simp;omega) λh' q=>⟨rfl,?_⟩
  exact I.abl (t':=s.toks) (ch:=[z,TO,i1,i2]) q λc hc=>hf c (by
   rcases(by simpa using hc:c=z\/c=TO\/c=i1\/c=i2) with q|q|q|q <;> simp[q])
 self:=λ_ _ _ _ _ st h=>wpAny_pyIter_zip st.hz h
noncomputable def EW (K:Frag)(ta tb:TE):TI:=λσ H R=>eC ta (eC tb E1) σ H λvs H1=>∃a b xs ys,vs=[.ref a,.ref b]/\bf K H1 a xs/\bf K H1 b ys/\R (DT K a b) H1
theorem Ck {X:Cx}{ea eb:Expr}{ta tb:TE}{elts:Bo}{x1:Nat}{tp p pos:Pos}(ha:PE X ea ta)(hb:PE X eb tb)(hg:Gl X "zip")(hm:X.mg "zip"=none)(hs:gO ea=false:=by rfl)(JZ:gO eb=false:=by rfl):
 PI X (.Tuple elts x1 tp) (.Call (.Name "zip" p) [ea,eb] [] pos) (EW X.K ta tb):=by
 intro pins s σ H R I h;refine wpAny_Call_Name_kw (gP I hg hm (by rfl) ?_ (by decide) (by decide));refine PyProof.Rows.callWith_type1 (bp (aq ha (aq hb ah JZ) hs pos pins s σ H _ I h) λus s1 z'=>?_) (cx hs) (by rw[cx JZ];rfl);obtain⟨vs,H1,I1,r1,a,b,xs,ys,hv,hq,hr,rr⟩:=z';subst hv;obtain⟨u,u',rfl,ru,QH⟩:=xX r1
 cases(show u=Value.ref a from ru)
 cases(show u'=Value.ref b from QH)
 obtain⟨its,rv,pl,hz⟩:=I1.tuple hq;obtain⟨MC,GI,Ui,Uh⟩:=I1.tuple hr;refine Zp.Dv (show s1.heap.IsTuple a its.toArray from pl) (show s1.heap.IsTuple b MC.toArray from Ui) λh' q1 q4=>?_;have I2:Inv X pins σ H1 {s1 with heap:=h'}:=I1.kept (t':=s1.toks) q4
 have la:a<s1.heap.objs.size:=by obtain⟨o,e,_⟩:=pl;exact Heap.lt_size e
 have lb:b<s1.heap.objs.size:=by obtain⟨o,e,_⟩:=Ui;exact Heap.lt_size e
 refine wpAny_pyIter_zip (s:={s1 with heap:=h'}) q1.hz ?_;refine⟨s1.heap.objs.size+4,[s1.heap.objs.size+4,s1.heap.objs.size+3,s1.heap.objs.size,s1.heap.objs.size+1,s1.heap.objs.size+2],_,DT X.K a b,H1,rfl,I2,xW (Zp.yf _ _ _ la lb),q1,λc hc=>?_,rr⟩
 have Gf:s1.heap.objs.size<=c:=by
  rcases(by simpa using hc:c=s1.heap.objs.size+4\/c=s1.heap.objs.size+3\/c=s1.heap.objs.size\/c=s1.heap.objs.size+1\/c=s1.heap.objs.size+2) with q|q|q|q|q <;> rw[q]
  ·exact Nat.le_add_right _ _
  ·exact Nat.le_add_right _ _
  ·exact Nat.le_refl _
  ·exact Nat.le_add_right _ _
  ·exact Nat.le_add_right _ _
 exact I1.aa4 Gf (I1.hok.fresh Gf)
end L2
namespace K24
open PySem L2 PySem.W
noncomputable abbrev wo:Stmt:=(aV 14)
noncomputable abbrev iu:Stmt:=(aV 15)
noncomputable def cB:V->Bool
 | .int i=>decide (0<=i)&&decide (i<60)
 |_=>false
noncomputable def yA:Sp:=λvs H Q _=>∃x T,vs=[x]/\Th H x T/\Q (.bl (cB x)) H
variable {P:vQ}{w:World}{K:PySem.W.Frag}{mg:FA}{base:Heap}
theorem zY:uZ oX oX (ao wo):=d8 (by decide +kernel)
theorem we {f fw:Addr}{fd Hl:ET}{tM:Tok}(F:uB K "is_place" "is_place" wo f fd)(WI:mg "MOST_PLACES"=some (.int 60 tM))
 (FW:Bu P w K mg base (aS P w) 1 fw Hl oX u7)(bW:L2.aA K Hl oX [])(mW:mg "is_whole"=some (.ref fw))(kW:keepIn K (.ref fw)=true):Bu P w K mg base (aS P w) 2 f fd oX yA:=by
 refine F.okN zY (λvs H Q E h=>?_) (λFJ A outer s H vs Q E hr h=>?_)
 ·obtain⟨x,T,rfl,_⟩:=h;rfl
 ·obtain⟨x,T,rfl,th,q⟩:=h;have FY:om 1 _:=hr.mono (by decide);refine⟨_,ar (aB (fZ (ax FW FY (by rfl) mW kW bW .nil ag (@aq _ _ _ _ _ (pv 0) ah rfl)) (iM (pf me kQ ak (pv 0) (cR (by rfl) WI (show aC (.int 60) (.int 60 tM) from⟨_,rfl⟩)))))),?_⟩;refine⟨_,rfl,x,T,rfl,th,_,rfl,?_⟩
  cases e:c5 x with
  |false =>
   have z:cB x=false:=by cases x <;> first|rfl|cases e
   rw[z] at q;exact b8 q
  |true =>
   have z1:∃i,x=.int i:=by cases x <;> first|exact⟨_,rfl⟩|cases e
   obtain⟨i,rfl⟩:=z1;refine cb ?_;refine⟨_,rfl,_,_,rfl,rfl,_,rfl,?_⟩;refine cG (λh=>?_) (λh=>?_)
   ·refine⟨_,_,rfl,rfl,?_⟩;have h':decide (0<=i)=true:=h
    have z:cB (.int i)=decide (i<60):=by show(decide (0<=i)&&decide (i<60))=_;rw[h',Bool.true_and]
    rw[z] at q;exact q
   ·have h':decide (0<=i)=false:=by simpa using h
    have z:cB (.int i)=false:=by show(decide (0<=i)&&decide (i<60))=_;rw[h',Bool.false_and]
    rw[z] at q;exact q
end K24
namespace HT
open PySem PyProof.Rows
section
variable {prog:vQ}{w:World}{A:Around}{E:yg}{s:Fp}
theorem gF {t sl:Addr}{items:Cm}{vl vu:Value}{lo hi:Option Int}{Q:yg}(ht:IsTup s.heap t items)(hs:s.heap.IsSliceOf sl vl vu .none)(pl:IsPart vl lo)(pu:IsPart vu hi)
 (h0:dW items.size 0 lo=0)(h1:dW items.size items.size hi=items.size)(h:Q (.ref t) s):wpAny (model prog w) A (getItem (.ref t) (.ref sl)) Q E s:=by
 obtain⟨os,KJ,LI,Mf⟩:=id hs;have Qd:s.TypeIs (.ref sl) "slice":=⟨os,KJ,LI⟩;unfold getItem
 try with_reducible refine wpAny_holding ?_
 first|refine wpAny_bind (wpAny_pure ?_)|skip
 refine wpAny_bind (wpAny_sequenceKey ht.typeIs (by decide) ?_)
 refine wpAny_bind (wpAny_callSpecial?_slot (name:=Str.ofString "__getitem__") ht.typeIs PyProof.Rows.slot_tuple_getitem
  (wpAny_call_entry PyProof.Rows.slot_tuple_getitem ht.typeIs entry_tuple_getitem ?_ (args_tuple_getitem _ _)))
 show wpAny _ _ (Builtin.Tuple.tupleItemsOf (.ref t)>>=_) _ _ s;refine wpAny_bind (tupleItemsOf_ ht ?_);refine wpAny_bind (wpAny_typeOf Qd ?_);rw[if_pos (by decide)];refine wpAny_bind (eQ hs pl pu ?_);rw[h0,h1]
 have HD:((((0:Nat):Int)==0&&(1:Int)==1&&(items.size-0)==items.size)=true):=by simp
 dsimp only;rw[if_pos HD];show wpAny _ _ (Builtin.Tuple.tupleIsExact (.ref t)>>=_) _ _ s;refine wpAny_bind ?_;unfold Builtin.Tuple.tupleIsExact;refine wpAny_bind (wpAny_typeOf ht.typeIs (wpAny_pure ?_));rw[if_pos (by decide)];refine wpAny_bind (wpAny_rule ?_);exact wpAny_pure ⟨_,rfl,wpAny_pure h⟩
end
end HT
namespace L2
open PySem PySem.Spec PyProof.Rows PySem.W
variable {X:Cx}
noncomputable def Em (K:Frag):V->Option Int->Option Int->Hp->VK->Prop:=λx lo hi H Q=>∃a xs,x=.ref a/\bf K H a xs/\(nM xs lo hi=xs->Q (.ref a) H)/\∀p,H p=none->Q (.ref p) (upd H p (.tup (nM xs lo hi)))
theorem Aj:EZ X (Em X.K):=by
 intro pins s σ H x v vl vu lo hi sl Q I rx hs pl pu h;obtain⟨a,xs,rfl,hx,h1,h2⟩:=h
 by_cases hw:HT.dW xs.length 0 lo=0/\HT.dW xs.length xs.length hi=xs.length
 ·cases rx
  obtain⟨its,r,ht,hz⟩:=I.tuple hx
  have hlen:its.toArray.size=xs.length:=by rw[List.size_toArray];exact r.length.symm
  refine⟨"tuple",_,PyProof.Rows.slot_tuple_getitem.lookup,ht.typeIs,?_⟩;refine HT.gF ht hs pl pu (by rw[hlen];exact hw.1) (by rw[hlen];exact hw.2) ?_;refine⟨.ref a,H,I,rfl,h1 ?_⟩;unfold nM;rw[hw.1,hw.2];simp
 ·exact Bc pins s σ H (.ref a) v vl vu lo hi sl Q I rx hs pl pu ⟨a,xs,rfl,hx,hw,h2⟩
end L2
namespace K24
open PySem L2 PySem.W
inductive PX (H:Hp):V->Option (List V)->Prop where
 |no {x:V}{T:String}:Th H x T->T ≠ "tuple"->PX H x none
 |tup {a:Addr}{xs:List V}:H a=some (.tup xs)->xs.length<4000->(∀y∈xs,∃T,Th H y T)->PX H (.ref a) (some xs)
noncomputable def DJ:V->V->Bool
 | .int a,.int b=>decide (a<b)
 |_,_=>false
noncomputable def i4 (xs:List V):Bool:=(xs.zip (xs.drop 1)).all λp=>DJ p.1 p.2
noncomputable def kf:Option (List V)->Bool
 |none=>false
 |some xs=>xs.all cB&&i4 xs
noncomputable def xQ:Sp:=λvs H Q _=>∃x o,vs=[x]/\PX H x o/\∀H',ay H H'->Q (.bl (kf o)) H'
theorem Dm (xs:List V):nM xs (some 1) none=xs.drop 1:=by
 unfold nM HT.dW
 cases xs with
 |nil=>rfl
 |cons x xs=>simp
theorem uS:uZ oX oX (ao iu):=d8 (by decide +kernel)
theorem rS:∀bs:List Bool,Paired D1 (bs.map V.bl) bs
 |[]=>.nil
 |b::bs=>.cons rfl (rS bs)
variable {P:vQ}{w:World}{K:PySem.W.Frag}{mg:FA}{base:Heap}
variable {f:Addr}{fd:ET}
theorem qT {fp:Addr}{HP:ET}(F:uB K "is_product" "is_product" iu f fd)(FH:mg "isinstance"=none)(FZ:mg "tuple"=none)(HQ:mg "all"=none)(IB:mg "zip"=none)
 (FP:Bu P w K mg base (aS P w) 2 fp HP oX yA)(bP:L2.aA K HP oX [])(mP:mg "is_place"=some (.ref fp))(kP:keepIn K (.ref fp)=true):Bu P w K mg base (aS P w) 3 f fd oX xQ:=by
 refine F.okN uS (λvs H Q E h=>?_) (λFJ A outer s H vs Q E hr h=>?_)
 ·obtain⟨x,o,rfl,_⟩:=h;rfl
 ·obtain⟨x,o,rfl,px,q⟩:=h;have G9:om 2 _:=hr.mono (by decide)
  refine⟨_,(aj (bg (PW.pt (iA (cp (cq (aF bq (by rfl) FH (by rfl) (@aq _ _ _ _ _ (pv 0) (@aq _ _ _ _ _ (du (by rfl) FZ (by rfl) (show aC (.ty "tuple") (.type "tuple") from rfl)) ah rfl) rfl)))) (fe (cp (cq (aF (pL rfl) (by rfl) HQ (by rfl) (@aq _ _ _ _ _ (dN (N:=["place"]) (nl:=1) (js:=[]) (osc:=ao iu) ⟨rfl,rfl,by decide +kernel,by decide +kernel,by decide +kernel,rfl,.nil,by decide +kernel⟩ rfl
   (ab0 (pv 0))
   (λC fp s H=>aE (i:=0) (by show(["place"]:wk).Nodup;decide +kernel) rfl (Or.inl rfl) (Or.inr rfl))
   (λC fp s H=>eR)
   (λC fp s H=>(ax FP G9 (by rfl) mP kP bP .nil ag (@aq _ _ _ _ _ (pv 0) ah rfl)))) ah rfl))))))) (ar (aB fF)) aJ)
   (ar (aB (aF (pL rfl) (by rfl) HQ (by rfl) (@aq _ _ _ _ _ (dN (g:=ji K 2 (ck (bz 0) (ck (bz 1) Ek))) (N:=["place","later"]) (nl:=2) (js:=[]) (osc:=ao iu) ⟨rfl,rfl,by decide +kernel,by decide +kernel,by decide +kernel,rfl,.nil,by decide +kernel⟩ rfl
    (Ck (pv 0) (yw Aj (pv 0) (Aq ak) Ab) (by rfl) IB)
    (λC fp s H=>(cK (X:=bD _ ["place","later"] _ C fp s H) rfl (aI (aE (X:=bD _ ["place","later"] _ C fp s H) (i:=0) (by show(["place","later"]:wk).Nodup;decide +kernel) rfl (Or.inl rfl) (Or.inr rfl)) (aI (aE (X:=bD _ ["place","later"] _ C fp s H) (i:=1) (by show(["place","later"]:wk).Nodup;decide +kernel) rfl (Or.inl rfl) (Or.inr rfl)) bX))))
    (λC fp s H=>eR)
    (λC fp s H=>(@cP _ _ _ _ _ _ _ _ kQ (pv 0) (pv 1) (aM _)))) ah rfl))))),?_⟩
  cases px with
  |@no x T th ne =>
   refine⟨_,rfl,x,.ty "tuple",_,_,_,rfl,rfl,th.ty,th.isTup,_,rfl,?_⟩;rw[decide_eq_false ne];exact cb (cb (q _ (ay.refl _)))
  |@tup a xs ha hl WJ =>
   refine⟨_,rfl,.ref a,.ty "tuple",_,_,_,rfl,rfl,.of (.tup ha),rfl,_,rfl,b8 ?_⟩;have Uj:∀n,n<=xs.length->n<sizeLine:=λn hn=>Nat.lt_of_le_of_lt hn (Nat.lt_trans hl (by decide));refine⟨_,rfl,a,rfl,⟨xs,bf.of ha⟩,?_⟩;refine⟨λi m ys σ' H'=>m=xs.length-i/\i<=xs.length/\ys=((xs.take i).map cB).map V.bl/\H=H'/\∃o,σ'=[o],⟨xs.length,by simp,Nat.zero_le _,by simp,rfl,none,rfl⟩,?_⟩;rintro i m ys σ' H' ⟨rfl,hi,rfl,rfl,o,rfl⟩;refine⟨Uj _ (by simp;omega),?_⟩
   by_cases FO:i<xs.length
   ·refine .inr ⟨⟨xs,xs[i],bf.of ha,by simp[FO]⟩,λy H2 hy=>?_⟩;obtain⟨rfl,hy⟩:=hy;have ey:=hy xs (bf.of ha);obtain⟨T,th⟩:=WJ y (List.mem_of_getElem? ey);dsimp only[Cc,bz];refine cb ⟨_,rfl,y,T,rfl,th,xs.length-(i+1),by omega,rfl,FO,?_,rfl,_,rfl⟩
    have e2:xs.take (i+1)=xs.take i++[y]:=by
     rw[List.take_add_one,ey];rfl
    rw[e2];simp
   ·have ei:i=xs.length:=by omega
    subst ei;refine .inl ⟨⟨xs,bf.of ha,Nat.le_refl _⟩,λD hD=>?_⟩;rw[List.take_length];refine⟨D,_,xs.map cB,rfl,aY.of ae,rS _,_,rfl,?_⟩;have sD:ay H (upd H D (.lst ((xs.map cB).map V.bl))):=au hD
    cases hp:(xs.map cB).all id with
    |false =>
     have z:kf (some xs)=false:=by
      show(xs.all cB&&i4 xs)=_
      have:xs.all cB=false:=by rw[<-hp,List.all_map];rfl
      rw[this,Bool.false_and]
     rw[z] at q;exact cb (q _ sD)
    |true =>
     refine b8 ?_
     have z:kf (some xs)=i4 xs:=by
      show(xs.all cB&&i4 xs)=_
      have:xs.all cB=true:=by rw[<-hp,List.all_map];rfl
      rw[this,Bool.true_and]
     rw[z] at q;generalize upd H D (.lst ((xs.map cB).map V.bl))=H1 at sD |-;have Ij:=sD _ _ ha
     have hint:∀y∈xs,∃n,y=V.int n:=λy hy=>by
      have:cB y=true:=List.all_eq_true.mp hp _ (List.mem_map_of_mem hy)
      cases y <;> first|exact⟨_,rfl⟩|cases this
     have key:∀(b:Addr)(H2:Hp),ay H H2->H2 a=some (.tup xs)->H2 b=some (.tup (xs.drop 1)) →
      ∃W:Nat->Nat->List V->St->Hp->Prop,(∃m,W 0 m [] [none,none] H2)/\ml (DT K a b) (ji K 2 (ck (bz 0) (ck (bz 1) Ek))) Cc (qP (v3 λi j=>V.bl (decide (i<j))) (fH 0) (fH 1)) W
       λys H'=>∀D,H' D=none->∃l zs bs,[V.ref D]=[V.ref l]/\aY K (upd H' D (.lst ys)) l zs/\Paired D1 zs bs/\Q (.bl (bs.all id)) (upd H' D (.lst ys)):=by
      intro b H2 s2 WK WL;refine⟨λi m ys σ' H'=>m=(xs.drop 1).length-i/\i<=(xs.drop 1).length/\ys=(((xs.zip (xs.drop 1)).take i).map λp=>DJ p.1 p.2).map V.bl/\ay H2 H'/\∃o1 o2,σ'=[o1,o2],⟨(xs.drop 1).length,by simp,Nat.zero_le _,by simp,ay.refl _,none,none,rfl⟩,?_⟩;rintro i m ys σ' H' ⟨rfl,hi,rfl,sH,o1,o2,rfl⟩;have MD:=sH _ _ WK;have Gf:=sH _ _ WL;refine⟨Uj _ (by simp;omega),?_⟩
      by_cases FO:i<(xs.drop 1).length
      ·have QK:i<xs.length:=by rw[List.length_drop] at FO;omega
       refine .inr ⟨⟨xs,xs.drop 1,xs[i],(xs.drop 1)[i],bf.of MD,bf.of Gf,by simp[QK],by rw[List.getElem?_eq_getElem FO]⟩,λv H3 hv=>?_⟩;obtain⟨T,x,y,hx,hy,hT,rfl,rfl⟩:=hv;have ex:=hx xs (bf.of MD);have ey:=hy (xs.drop 1) (bf.of Gf);obtain⟨n,rfl⟩:=hint x (List.mem_of_getElem? ex);obtain⟨k,rfl⟩:=hint y (List.mem_of_mem_drop (List.mem_of_getElem? ey));refine⟨T,_,rfl,bf.of ae,rfl,_,_,rfl,_,_,rfl,rfl,?_⟩;dsimp only[Cc];refine cb ⟨_,rfl,_,rfl,n,k,rfl,rfl,(xs.drop 1).length-(i+1),by omega,rfl,FO,?_,λc u e=>?_,_,_,rfl⟩
       ·have ez:(xs.zip (xs.drop 1))[i]?=some (V.int n,V.int k):=by
         rw[List.getElem?_zip_eq_some];exact⟨ex,ey⟩
        have e2:(xs.zip (xs.drop 1)).take (i+1)=(xs.zip (xs.drop 1)).take i++[(V.int n,V.int k)]:=by
         rw[List.take_add_one,ez];rfl
        rw[e2];simp[DJ]
       ·rw[ai (av (sH _ _ e) hT)];exact sH _ _ e
      ·have ei:i=(xs.drop 1).length:=by omega
       subst ei;refine .inl ⟨⟨xs,xs.drop 1,bf.of MD,bf.of Gf,.inr (Nat.le_refl _)⟩,λD' QL=>?_⟩
       have et:(xs.zip (xs.drop 1)).take (xs.drop 1).length=xs.zip (xs.drop 1):=by
        apply List.take_of_length_le;rw[List.length_zip];exact Nat.min_le_right _ _
       rw[et];refine⟨D',_,(xs.zip (xs.drop 1)).map λp=>DJ p.1 p.2,rfl,aY.of ae,rS _,?_⟩
       have er:((xs.zip (xs.drop 1)).map λp=>DJ p.1 p.2).all id=i4 xs:=by rw[List.all_map];rfl
       rw[er];refine q _ λc u e=>?_;have e1:=sH _ _ (s2 _ _ e);rw[ai (av e1 QL)];exact e1
     refine⟨_,rfl,_,rfl,1,rfl,a,xs,rfl,bf.of Ij,λe=>?_,λp Pb=>?_⟩
     ·rw[Dm] at e;exact⟨a,a,xs,xs.drop 1,rfl,bf.of Ij,bf.of (by rw[e];exact Ij),key a H1 sD Ij (by rw[e];exact Ij)⟩
     ·rw[Dm];have np:a≠p:=av Ij Pb;exact⟨a,p,xs,xs.drop 1,rfl,bf.of (by rw[ai np];exact Ij),bf.of ae,key p _ (λc u e=>by rw[ai (av (sD _ _ e) Pb)];exact sD _ _ e) (by rw[ai np];exact Ij) ae⟩
noncomputable abbrev AQ:Stmt:=(aV 38)
theorem PX.same {H H':Hp}{x:V}{o:Option (List V)}(h:PX H x o)(s:ay H H'):PX H' x o:=by
 cases h with
 |no th n=>exact .no (th.same s) n
 |tup e l h=>exact .tup (s _ _ e) l λy hy=>let⟨T,t⟩:=h y hy;⟨T,t.same s⟩
inductive Ez (p:Int)(H:Hp):V->Bool->Prop where
 |no {x:V}{T:String}:Th H x T->T ≠ "tuple"->Ez p H x false
 |odd {a:Addr}{xs:List V}:H a=some (.tup xs)->xs.length≠2->Ez p H (.ref a) false
 |two {a:Addr}{y z:V}{o:Option (List V)}{o2:Option (V×V)}:H a=some (.tup [y,z])->PX H y o->TX H z o2->Ez p H (.ref a) (kf o&&wL p o2)
theorem Ez.same {p:Int}{H H':Hp}{x:V}{b:Bool}(h:Ez p H x b)(s:ay H H'):Ez p H' x b:=by
 cases h with
 |no th n=>exact .no (th.same s) n
 |odd e n=>exact .odd (s _ _ e) n
 |two e h1 h2=>exact .two (s _ _ e) (h1.same s) (h2.same s)
noncomputable def wD (C:Addr):Sp:=λvs H Q _=>∃(s dx:Addr)(p:Int)(x:V)(b:Bool),vs=[.ref s,x]/\H s=some (.ins C dx (gZ p))/\FP p/\Ez p H x b/\∀H',ay H H'->Q (.bl b) H'
theorem Cy:uZ sf sf (ao AQ):=d8 (by decide +kernel)
theorem zu {fp fi C:Addr}{HP Uk:ET}(F:uB K "is_term" "is_term" AQ f fd)(c:B5 K mg C)(FH:mg "isinstance"=none)(FZ:mg "tuple"=none)(m_len:mg "len"=none)
 (WM:Bu P w K mg base (aS P w) 3 fp HP oX xQ)(bP:L2.aA K HP oX [])(mP:mg "is_product"=some (.ref fp))(kP:keepIn K (.ref fp)=true)
 (FI:Bu P w K mg base (aS P w) 2 fi Uk qj (lu C))(bI:L2.aA K Uk qj [])(mI:L2.Meth K C "is_number" fi):Bu P w K mg base (aS P w) 4 f fd sf (wD C):=by
 refine F.okN Cy (λvs H Q E h=>?_) (λFJ A outer s H vs Q E hr h=>?_)
 ·obtain⟨s,dx,p,x,b,rfl,_⟩:=h;rfl
 ·obtain⟨s0,dx,p,x,b,rfl,hs,hp,tx,q⟩:=h;have HE:om 3 _:=hr.mono (by decide);have G9:om 2 _:=hr.mono (by decide)
  refine⟨_,ar (aB (fZ (aF bq (by rfl) FH (by rfl) (@aq _ _ _ _ _ (pv 1) (@aq _ _ _ _ _ (du (by rfl) FZ (by rfl) (show aC (.ty "tuple") (.type "tuple") from rfl)) ah rfl) rfl))
   (fZ (@cP _ _ _ _ _ _ _ _ dC (aF bU (by rfl) m_len PySem.boot_len (@aq _ _ _ _ _ (pv 1) ah rfl)) ak (aM _))
   (fZ (ax WM HE (by rfl) mP kP bP .nil ag (@aq _ _ _ _ _ (@aX _ _ _ _ _ _ _ bw (pv 1) ak (λ_ _=>rfl)) ah rfl))
   (iM (il (pv 0) c.cl mI FI G9 bI .nil ag (@aq _ _ _ _ _ (@aX _ _ _ _ _ _ _ bw (pv 1) ak (λ_ _=>rfl)) ah rfl))))))),?_⟩
  cases tx with
  |@no x T th ne =>
   refine⟨_,rfl,x,.ty "tuple",_,_,_,rfl,rfl,th.ty,th.isTup,_,rfl,?_⟩;rw[decide_eq_false ne];exact b8 (q _ (ay.refl _))
  |@odd a xs ha hl =>
   refine⟨_,rfl,.ref a,.ty "tuple",_,_,_,rfl,rfl,.of (.tup ha),rfl,_,rfl,cb ?_⟩;refine⟨_,rfl,a,_,rfl,.inr (bf.of ha),rfl,_,rfl,?_⟩;refine cG (λh=>absurd h (by simp;omega)) (λh=>?_);exact q _ (ay.refl _)
  |@two a y z o o2 ha hy hz =>
   refine⟨_,rfl,.ref a,.ty "tuple",_,_,_,rfl,rfl,.of (.tup ha),rfl,_,rfl,cb ?_⟩;refine⟨_,rfl,a,_,rfl,.inr (bf.of ha),rfl,_,rfl,cb ?_⟩;refine⟨_,rfl,a,_,0,y,rfl,rfl,bf.of ha,rfl,y,o,rfl,hy,λH' sH=>⟨_,rfl,?_⟩⟩;have JZ:=sH _ _ hs;have MD:=sH _ _ ha
   cases e:kf o with
   |false =>
    rw[e,Bool.false_and] at q;exact b8 (q _ sH)
   |true =>
    rw[e,Bool.true_and] at q;refine cb ⟨_,rfl,s0,dx,_,rfl,JZ,rfl,_,rfl,a,_,1,z,rfl,rfl,bf.of MD,rfl,s0,dx,p,z,o2,rfl,JZ,hp,hz.same sH,q _ sH⟩
noncomputable abbrev oJ:Stmt:=(aV 39)
noncomputable abbrev qm:Stmt:=(aV 40)
noncomputable def lV (C:Addr):Sp:=λvs H Q _=>∃(s dx:Addr)(p:Int)(x:V),vs=[.ref s,x]/\H s=some (.ins C dx (gZ p))/\FP p /\
 ((x=.non/\∀l,H l=none->Q (.ref l) (upd H l (.lst [])))\/∃l ys,x=.ref l/\H l=some (.lst ys)/\ys.length<4000/\(∀y∈ys,Ez p H y true)/\∀H',ay H H'->Q (.ref l) H')
noncomputable def C2:Sp:=λvs H Q _=>∃(a b:Addr)(z:V)(xs:List V),vs=[.ref a]/\H a=some (.tup [.ref b,z])/\H b=some (.tup xs)/\∀t,H t=none->Q (.ref t) (upd H t (.tup [.int xs.length,.ref b]))
theorem iX:uZ ["field","terms","number","thing"] qD (ao oJ):=d8 (by decide +kernel)
theorem uX:uZ ["term"] ["term"] (ao qm):=d8 (by decide +kernel)
theorem qW (F:uB K "place_of_term" "place_of_term" qm f fd)(m_len:mg "len"=none):Bu P w K mg base (aS P w) 1 f fd ["term"] C2:=by
 refine F.okN uX (λvs H Q E h=>?_) (λFJ A outer s H vs Q E hr h=>?_)
 ·obtain⟨a,b,z,xs,rfl,_⟩:=h;rfl
 ·obtain⟨a,b,z,xs,rfl,ha,hb,q⟩:=h;refine⟨_,(ar (aB (@bx _ _ _ _ _ (@aq _ _ _ _ _ (aF bU (by rfl) m_len PySem.boot_len (@aq _ _ _ _ _ (@aX _ _ _ _ _ _ _ bw (pv 0) ak (λ_ _=>rfl)) ah rfl)) (@aq _ _ _ _ _ (@aX _ _ _ _ _ _ _ bw (pv 0) ak (λ_ _=>rfl)) ah rfl) rfl)))),?_⟩;refine⟨_,rfl,a,_,0,_,rfl,rfl,bf.of ha,rfl,b,xs,rfl,.inr (bf.of hb),_,rfl,a,_,0,_,rfl,rfl,bf.of ha,rfl,BJ,λt ht=>q t ht⟩
theorem rL {ft C:Addr}{GA:ET}(F:uB K "checked_terms" "checked_terms" oJ f fd)(FH:mg "isinstance"=none)(Gp:mg "list"=none)(F9:mg "enumerate"=none)
 (FT:Bu P w K mg base (aS P w) 4 ft GA sf (wD C))(bT:L2.aA K GA sf [])(mT:mg "is_term"=some (.ref ft))(kT:keepIn K (.ref ft)=true):Bu P w K mg base (aS P w) 5 f fd qD (lV C):=by
 refine F.okN iX (λvs H Q E h=>?_) (λFJ A outer s H vs Q E hr h=>?_)
 ·obtain⟨s,dx,p,x,rfl,_⟩:=h;rfl
 ·obtain⟨s0,dx,p,x,rfl,hs,hp,h⟩:=h;have J0:om 4 _:=hr.mono (by decide)
  refine⟨_,(aj (bg (@aN _ _ _ _ _ _ _ _ ack (pv 1) n9 (aM _)) (ar (aB (@cD _ _ _ _ ah))) aJ)
   (aj (bg (cp (cq (aF bq (by rfl) FH (by rfl) (@aq _ _ _ _ _ (pv 1) (@aq _ _ _ _ _ (du (by rfl) Gp (by rfl) (show aC (.ty "list") (.type "list") from rfl)) ah rfl) rfl)))) (ar (pM)) aJ)
   (aj (c9 PassesOwn.never rfl (Al (pv 1) (by rfl) F9) (cK rfl (aI (aE (i:=2) iX.nd rfl (Or.inl rfl)) (aI (aE (i:=3) iX.nd rfl (Or.inl rfl)) bX)))
   (ar (bg (cp (cq (ax FT J0 (by rfl) mT kT bT .nil ag (@aq _ _ _ _ _ (pv 0) (@aq _ _ _ _ _ (pv 3) ah rfl) rfl)))) (ar (pM)) aJ)))
   (ar (aB (pv 1)))))),?_⟩
  rcases h with⟨rfl,q⟩|⟨l,ys,rfl,hl,hlen,WN,q⟩
  ·refine⟨_,rfl,rfl,_,rfl,?_⟩;exact cb ⟨Nat.zero_le _,λl hl=>q l hl⟩
  ·refine⟨_,rfl,rfl,_,rfl,b8 ?_⟩;refine⟨_,rfl,.ref l,.ty "list",_,_,_,rfl,rfl,.of (.lst hl),rfl,_,rfl,b8 ?_⟩;refine⟨_,rfl,l,ys,rfl,aY.of hl,?_⟩;refine⟨λi m σ' H'=>m=ys.length-i/\i<=ys.length/\ay H H'/\∃o1 o2,σ'=[some (.ref s0),some (.ref l),o1,o2],⟨ys.length,by simp,Nat.zero_le _,ay.refl _,none,none,rfl⟩,?_⟩;rintro i m σ' H' ⟨rfl,hi,sH,o1,o2,rfl⟩;have Hy:=sH _ _ hl
   by_cases FO:i<ys.length
   ·refine .inr ⟨⟨ys,ys[i],aY.of Hy,by simp[FO]⟩,λσ' H'=>i+1<=ys.length/\ay H H'/\∃o1 o2,σ'=[some (.ref s0),some (.ref l),o1,o2],?_,λv H2 hv=>?_⟩
    ·rintro σ' H' ⟨h1,h2,h3⟩;exact⟨ys.length-(i+1),by omega,rfl,h1,h2,h3⟩
    ·obtain⟨T,y,hy,hT,rfl,rfl⟩:=hv;have ey:=hy ys (aY.of Hy)
     have s2:ay H (upd H' T (.tup [.int i,y])):=λc u e=>by
      rw[ai (av (sH _ _ e) hT)];exact sH _ _ e
     have ty:=(WN y (List.mem_of_getElem? ey)).same s2;refine⟨T,_,rfl,bf.of ae,rfl,_,_,rfl,_,_,rfl,rfl,?_⟩;refine⟨_,rfl,_,rfl,s0,dx,p,y,true,rfl,s2 _ _ hs,hp,ty,λH3 s3=>⟨_,rfl,b8 ?_⟩⟩;exact⟨FO,λc u e=>s3 _ _ (s2 _ _ e),_,_,rfl⟩
   ·refine .inl ⟨⟨ys,aY.of Hy,by omega⟩,?_⟩;exact⟨_,rfl,q _ sH⟩
end K24
namespace Srt
open PySem PySem.W PyProof.Rows
structure Pm (n:Nat)(r:Nat->Nat)(p:Array Nat):Prop where
 size:p.size=n
 lt:∀k,k<n->p.getD k 0<n
 ne:∀k l,k<n->l<n->k≠l->r (p.getD k 0)≠r (p.getD l 0)
 perm:p.Perm (List.range n).toArray
variable {p:Array Nat}{k m j:Nat}
section
variable {n:Nat}{r:Nat->Nat}
theorem Pm.nq {n:Nat}{r:Nat->Nat}(P:Pm n r p)(k l:Nat)(hk:k<n)(hl:l<n)(h:k≠l):p.getD k 0≠p.getD l 0:=λz=>P.ne k l hk hl h (by rw[z])
theorem getD_some (h:k<p.size):p[k]?=some (p.getD k 0):=by simp[Array.getD,h]
theorem qp (inj:∀i j,i<n->j<n->i≠j->r i≠r j)(hp:p.Perm (List.range n).toArray):Pm n r p:=by
 have hl:p.toList.Perm (List.range n):=by simpa using hp.toList
 have hs:p.size=n:=by rw[<-Array.length_toList,hl.length_eq,List.length_range]
 have FO:∀k,k<n->p.getD k 0<n:=λk hk=>by
  have hm:p.getD k 0∈p.toList:=by
   rw[show p.getD k 0=p[k]'(by omega) by simp[Array.getD,hs,hk]];exact Array.mem_toList_iff.mpr (Array.getElem_mem _)
  exact List.mem_range.mp (hl.mem_iff.mp hm)
 refine⟨hs,FO,λk l hk Hy FX=>inj _ _ (FO k hk) (FO l Hy) λe=>FX ?_,hp⟩;have nd:p.toList.Nodup:=hl.nodup_iff.mpr List.nodup_range
 have e1:p.toList[k]'(by simp;omega)=p.toList[l]'(by simp;omega):=by
  rw[show p.getD k 0=p[k]'(by omega) by simp[Array.getD,hs,hk],show p.getD l 0=p[l]'(by omega) by simp[Array.getD,hs,Hy]] at e;simpa using e
 have pw:=List.pairwise_iff_getElem.mp (show p.toList.Pairwise (· ≠ ·) from nd)
 rcases Nat.lt_trichotomy k l with z|z|z
 ·exact absurd e1 (pw k l _ _ z)
 ·exact z
 ·exact absurd e1.symm (pw l k _ _ z)
noncomputable def Up (r:Nat->Nat)(p:Array Nat)(m:Nat):Prop:=∀i j,i<j->j<m->r (p.getD i 0)<r (p.getD j 0)
noncomputable def Dn (r:Nat->Nat)(p:Array Nat)(m:Nat):Prop:=∀i j,i<j->j<m->r (p.getD j 0)<r (p.getD i 0)
theorem Up.succ (h:Up r p m)(h1:1<=m)(e:r (p.getD (m-1) 0)<r (p.getD m 0)):Up r p (m+1):=λi j HJ hj=>by
 by_cases z:j=m
 ·subst z
  by_cases z2:i=j-1
  ·subst z2;exact e
  ·exact Nat.lt_trans (h i (j-1) (by omega) (by omega)) e
 ·exact h i j HJ (by omega)
theorem Dn.succ (h:Dn r p m)(h1:1<=m)(e:r (p.getD m 0)<r (p.getD (m-1) 0)):Dn r p (m+1):=λi j HJ hj=>by
 by_cases z:j=m
 ·subst z
  by_cases z2:i=j-1
  ·subst z2;exact e
  ·exact Nat.lt_trans e (h i (j-1) (by omega) (by omega))
 ·exact h i j HJ (by omega)
theorem tw (hm:m<=p.size)(hk:k<p.size):(kas_rev p 0 m).getD k 0=if k<m then p.getD (m-1-k) 0 else p.getD k 0:=by
 have e:=getElem?_mirror_all (xs:=p) (i:=0) hm k;have hs:(kas_rev p 0 m).size=p.size:=mirror_size _ _ _ _;have e2:(kas_rev p 0 m)[k]?=some ((kas_rev p 0 m).getD k 0):=getD_some (by rw[hs];exact hk)
 have e3:(kas_rev p 0 m)[k]?=if 0<=k/\k<m then p[0+m-1-k]? else p[k]?:=e
 rw[e2] at e3
 by_cases h:k<m
 ·rw[if_pos ⟨Nat.zero_le _,h⟩,show 0+m-1-k=m-1-k by omega,getD_some (by omega)] at e3;rw[if_pos h];exact Option.some.inj e3
 ·rw[if_neg (λz=>h z.2),getD_some hk] at e3;rw[if_neg h];exact Option.some.inj e3
theorem Dn.rev (h:Dn r p m)(hm:m<=p.size):Up r (kas_rev p 0 m) m:=λi j HJ hj=>by
 rw[tw hm (by omega),tw hm (by omega),if_pos (by omega),if_pos hj];exact h _ _ (by omega) (by omega)
variable {cmp:Nat->Nat->(Bool->Shared->Prop)->Shared->Prop}{s:Fp}
theorem rP (hc:∀i j C,i<n->j<n->i≠j->C (decide (r i<r j)) s->cmp i j C s)(P:Pm n r p){Q:Nat->Shared->Prop}:∀(f m:Nat),1<=m->m+f=n->Up r p m →
 (∀m',m<=m'->m'<=n->Up r p m'->(m'<n->r (p.getD m' 0)<r (p.getD (m'-1) 0))->Q m' s)->(kas_asc p f m).kasWp cmp Q s
 |0,m,h1,hm,hu,hQ=>hQ m (Nat.le_refl _) (by omega) hu λh=>by omega
 |f+1,m,h1,hm,hu,hQ=>by
  refine hc _ _ _ (P.lt m (by omega)) (P.lt (m-1) (by omega)) (P.nq m (m-1) (by omega) (by omega) (by omega)) ?_;show((if decide (r (p.getD m 0)<r (p.getD (m-1) 0))=true then KasT.ret m else kas_asc p f (m+1)).kasWp cmp Q s)
  by_cases h:r (p.getD m 0)<r (p.getD (m-1) 0)
  ·rw[if_pos (decide_eq_true h)];exact hQ m (Nat.le_refl _) (by omega) hu λ_=>h
  ·rw[if_neg (by simpa using h)];have ne:=P.ne m (m-1) (by omega) (by omega) (by omega);exact rP hc P f (m+1) (by omega) (by omega) (hu.succ h1 (by omega)) λm' h2=>hQ m' (by omega)
theorem tZ (hc:∀i j C,i<n->j<n->i≠j->C (decide (r i<r j)) s->cmp i j C s)(P:Pm n r p){Q:Array Nat×Nat×Nat->Shared->Prop}:∀(f m:Nat),1<=m->m+f=n->Dn r p m →
 (∀m',m<=m'->m'<=n->Dn r p m'->Q (p,m',0) s)->(kas_desc f p m 0).kasWp cmp Q s
 |0,m,h1,hm,hu,hQ=>hQ m (Nat.le_refl _) (by omega) hu
 |f+1,m,h1,hm,hu,hQ=>by
  refine hc _ _ _ (P.lt m (by omega)) (P.lt (m-1) (by omega)) (P.nq m (m-1) (by omega) (by omega) (by omega)) ?_
  by_cases h:r (p.getD m 0)<r (p.getD (m-1) 0)
  ·rw[decide_eq_true h];exact tZ hc P f (m+1) (by omega) (by omega) (hu.succ h1 h) λm' h2=>hQ m' (by omega)
  ·rw[decide_eq_false h];refine hc _ _ _ (P.lt (m-1) (by omega)) (P.lt m (by omega)) (P.nq (m-1) m (by omega) (by omega) (by omega)) ?_;have ne:=P.ne m (m-1) (by omega) (by omega) (by omega);rw[decide_eq_true (show r (p.getD (m-1) 0)<r (p.getD m 0) by omega)];exact hQ m (Nat.le_refl _) (by omega) hu
theorem ye (inj:∀i j,i<n->j<n->i≠j->r i≠r j)(hc:∀i j C,i<n->j<n->i≠j->C (decide (r i<r j)) s->cmp i j C s)(P:Pm n r p){Q:Nat×Array Nat->Shared->Prop}(h1:1<=m)(hm:m<=n)(hd:Dn r p m)
 (hQ:∀m' p',m'<=n->1<=m'->Pm n r p'->Up r p' m'->Q (m',p') s):(kas_tail3 m n p).kasWp cmp Q s:=by
 unfold kas_tail3;rw[KasT.kasWp_bind];have P':Pm n r (kas_rev p 0 m):=qp inj ((mirror_perm _ _ _ _).trans P.perm);exact rP hc P' (n-m) m h1 (by omega) (hd.rev (by rw[P.size];exact hm)) λm' h2 h3 h4 _=>hQ m' _ h3 (by omega) P' h4
theorem w9 (inj:∀i j,i<n->j<n->i≠j->r i≠r j)(hc:∀i j C,i<n->j<n->i≠j->C (decide (r i<r j)) s->cmp i j C s)(h0:1<=n)(P:Pm n r p){Q:Nat×Array Nat->Shared->Prop}
 (hQ:∀m' p',m'<=n->1<=m'->Pm n r p'->Up r p' m'->Q (m',p') s):(kas_count n p).kasWp cmp Q s:=by
 unfold kas_count;rw[KasT.kasWp_bind];refine rP hc P (n-1) 1 (Nat.le_refl _) (by omega) (λi j HJ hj=>by omega) λm h1 h2 h3 h4=>?_
 by_cases e:m=n
 ·subst e;rw[if_pos (by simp)];exact hQ _ _ (Nat.le_refl _) h1 P h3
 ·rw[if_neg (by simpa using e)]
  by_cases h5:m>1
  ·rw[if_pos h5];refine hc _ _ _ (P.lt 0 (by omega)) (P.lt (m-1) (by omega)) (P.nq 0 (m-1) (by omega) (by omega) (by omega)) ?_;rw[decide_eq_true (h3 0 (m-1) (by omega) (by omega))];exact hQ _ _ h2 h1 P h3
  ·rw[if_neg h5]
   have e1:m=1:=by omega
   subst e1;unfold kas_descPart;rw[KasT.kasWp_bind];have d2:Dn r p (1+1):=Dn.succ (λi j HJ hj=>by omega) (Nat.le_refl _) (h4 (by omega));refine tZ hc P (n-(1+1)) (1+1) (by omega) (by omega) d2 λm' h6 h7 h8=>?_;show((if 0>0 then _ else kas_tail3 m' n p).kasWp cmp Q s);rw[if_neg (by omega)];exact ye inj hc P (by omega) h7 h8 hQ
theorem kR (hc:∀i j C,i<n->j<n->i≠j->C (decide (r i<r j)) s->cmp i j C s)(P:Pm n r p){Q:Nat->Shared->Prop}(hk:k<n)(hu:Up r p k):∀(f l q:Nat),l<=q->q<=k->q-l<=f->(∀j,j<l->r (p.getD j 0)<r (p.getD k 0))->(∀j,q<=j->j<k->r (p.getD k 0)<r (p.getD j 0)) →
 (∀l',l'<=k->(∀j,j<l'->r (p.getD j 0)<r (p.getD k 0))->(∀j,l'<=j->j<k->r (p.getD k 0)<r (p.getD j 0))->Q l' s)->(kas_place p k f l q).kasWp cmp Q s
 |0,l,q,h1,h2,h3,h4,h5,hQ=>hQ l (by omega) h4 λj h6 h7=>h5 j (by omega) h7
 |f+1,l,q,h1,h2,h3,h4,h5,hQ=>by
  unfold kas_place
  by_cases h:l ≥ q
  ·rw[if_pos h];exact hQ l (by omega) h4 λj h6 h7=>h5 j (by omega) h7
  ·rw[if_neg h];refine hc _ _ _ (P.lt k hk) (P.lt ((l+q)/2) (by omega)) (P.nq k ((l+q)/2) hk (by omega) (by omega)) ?_;have ne:=P.ne k ((l+q)/2) hk (by omega) (by omega)
   by_cases z:r (p.getD k 0)<r (p.getD ((l+q)/2) 0)
   ·rw[decide_eq_true z];refine kR hc P hk hu f l ((l+q)/2) (by omega) (by omega) (by omega) h4 (λj h6 h7=>?_) hQ
    by_cases e:j=(l+q)/2
    ·subst e;exact z
    ·exact Nat.lt_trans z (hu _ _ (by omega) h7)
   ·rw[decide_eq_false z];refine kR hc P hk hu f ((l+q)/2+1) q (by omega) h2 (by omega) (λj h6=>?_) h5 hQ
    by_cases e:j=(l+q)/2
    ·subst e;omega
    ·have:=hu j ((l+q)/2) (by omega) (by omega);omega
theorem sJ {l:Nat}(hk:k<p.size)(hl:l<=k)(hj:j<p.size):(bubble p k (k-l)).getD j 0=if j=l then p.getD k 0 else if l<j/\j<=k then p.getD (j-1) 0 else p.getD j 0:=by
 have e:=getElem?_bubble hk (k-l) (by omega) j;rw[show k-(k-l)=l by omega,getD_some (by rw[bubble_size];exact hj)] at e
 by_cases h1:j=l
 ·rw[if_pos h1,getD_some hk] at e;rw[if_pos h1];exact Option.some.inj e
 ·rw[if_neg h1] at e |-
  by_cases h2:l<j/\j<=k
  ·rw[if_pos h2,getD_some (by omega)] at e;rw[if_pos h2];exact Option.some.inj e
  ·rw[if_neg h2,getD_some hj] at e;rw[if_neg h2];exact Option.some.inj e
theorem wX (inj:∀i j,i<n->j<n->i≠j->r i≠r j)(hc:∀i j C,i<n->j<n->i≠j->C (decide (r i<r j)) s->cmp i j C s){Q:Array Nat->Shared->Prop}(hQ:∀p',Pm n r p'->Up r p' n->Q p' s):∀(f:Nat)(p:Array Nat)(k:Nat),Pm n r p->k+f=n->Up r p k->(kas_bin f p k).kasWp cmp Q s
 |0,p,k,P,hk,hu=>hQ p P (by rw[<-hk];exact hu)
 |f+1,p,k,P,hk,hu=>by
  unfold kas_bin;rw[KasT.kasWp_bind];refine kR hc P (by omega) hu k 0 k (Nat.zero_le _) (Nat.le_refl _) (by omega) (λj h=>by omega) (λj h1 h2=>by omega) λl h1 h2 h3=>?_;have P':Pm n r (bubble p k (k-l)):=qp inj ((bubble_perm _ _ _).trans P.perm);refine wX inj hc hQ f _ (k+1) P' (by omega) λi j HJ hj=>?_;have sz:=P.size;rw[sJ (by omega) h1 (by omega),sJ (by omega) h1 (by omega)]
  by_cases e1:i=l
  ·rw[if_pos e1,if_neg (by omega),if_pos ⟨by omega,by omega⟩];exact h3 _ (by omega) (by omega)
  ·rw[if_neg e1]
   by_cases e2:j=l
   ·rw[if_pos e2,if_neg (by omega)];exact h2 _ (by omega)
   ·rw[if_neg e2]
    by_cases e3:l<j
    ·rw[if_pos (show l<j/\j<=k from⟨e3,by omega⟩)]
     by_cases e4:l<i
     ·rw[if_pos ⟨e4,by omega⟩];exact hu _ _ (by omega) (by omega)
     ·rw[if_neg (by omega)];exact hu _ _ (by omega) (by omega)
    ·rw[if_neg (by omega),if_neg (by omega)];exact hu _ _ HJ (by omega)
theorem tV (inj:∀i j,i<n->j<n->i≠j->r i≠r j)(hc:∀i j C,i<n->j<n->i≠j->C (decide (r i<r j)) s->cmp i j C s)(h0:1<=n){Q:Array Nat->Shared->Prop}(hQ:∀p',Pm n r p'->Up r p' n->Q p' s):(kas_sort n).kasWp cmp Q s:=by
 unfold kas_sort;rw[KasT.kasWp_bind];refine w9 inj hc h0 (qp inj (Array.Perm.refl _)) λm p h1 h2 P hu=>?_;show((if m<n then kas_bin (n-max m 1) p (max m 1) else KasT.ret p).kasWp cmp Q s)
 by_cases h:m<n
 ·rw[if_pos h,show max m 1=m by omega];exact wX inj hc hQ _ _ _ P (by omega) hu
 ·rw[if_neg h]
  have e:m=n:=by omega
  subst e;exact hQ p P hu
end
variable {vs:qw}{n:Nat}
section
variable {prog:vQ}{w:World}{A:Around}{E:yg}{s:Fp}
noncomputable def nh (prog:vQ)(w:World)(A:Around)(ks:qw)(r:Nat->Nat)(s:Fp):Prop :=
 ∃κ,(∀Q:SortKind->Shared->Prop,Q κ s->wpAny (model prog w) A (keyKind' ks.toArray) Q (λ_ _=>False) s)/\∀i j C,i<ks.length->j<ks.length->i≠j->C (decide (r i<r j)) s->kas_ask prog w A κ ks i j C s
noncomputable def cN (vs:qw)(p:Array Nat):List Value:=p.toList.map λi=>vs.getD i Value.none
theorem ql (vs:qw):cN vs (List.range vs.length).toArray=vs:=by
 unfold cN;apply List.ext_getElem
 ·simp
 ·intro i h1 h2;simp[h2]
theorem u9 {r:Nat->Nat}(P:Pm vs.length r p):(cN vs p).length=vs.length:=by
 unfold cN;rw[List.length_map,Array.length_toList,P.size]
theorem cV (h:n<64):n<=sizeLine:=by rw[sizeLine_eq];omega
noncomputable def vU (a:Addr)(h h':Heap):Prop:=∀b o,b≠a->h.get? b=some o->h'.get? b=some o
theorem zm {h:Heap}{a:Addr}{o1 o2:Obj}{g:Obj->Obj}:vU a h (((h.update a g).push o1).push o2):=λb o hb e=>by
 refine Heap.get?_push_of_some _ (Heap.get?_push_of_some _ ?_);rw[Heap.get?_update_ne _ _ _ _ hb];exact e
theorem nJ {a:Addr}{r:Nat->Nat}{P:PySem.Fin->Shared->Prop}(ho:s.heap.get? a=some (seqObj "list" vs.toArray n))(h64:vs.length<64)
 (inj:∀i j,i<vs.length->j<vs.length->i≠j->r i≠r j)
 (hk:2<=vs.length->∀h',vU a s.heap h'->nh prog w A vs r {s with heap:=h'})
 (hP:∀h' p c,vU a s.heap h'->h'.get? a=some (seqObj "list" (cN vs p).toArray c)->Pm vs.length r p->Up r p vs.length->P (.done (.ret .none)) {s with heap:=h'}):
 wpAny (model prog w) A (Builtin.«list.sort» ⟨[.ref a],[]⟩) P E s:=by
 have ha:a<s.heap.objs.size:=Heap.lt_size ho;obtain⟨e1,Ul⟩:∃e1,(s.heap.update a (Obj.mapSeq λ_=>(#[]:Cm))).get? a=some (seqObj "list" #[] e1):=⟨_,get?_update_seq ho λ_=>#[]⟩;rw[list_sort_plain];refine wpAny_bind (listItems_at ho rfl (wpAny_bind (listUpdate_at ho rfl (wpAny_bind (seqEpoch_at Ul rfl (wpAny_bind (wpAny_newTuple (wpAny_bind (wpAny_newList ?_ (Nat.zero_le _))) (cV h64))))) (by rw[List.size_toArray];exact cV h64) (Nat.zero_le _))));refine wpAny_holding (?_:wpAny (model prog w) A _ P E {s with heap:=((s.heap.update a (Obj.mapSeq λ_=>(#[]:Cm))).push (seqObj "tuple" vs.toArray 0)).push (seqObj "list" #[] 0)});have kp:vU a s.heap (((s.heap.update a (Obj.mapSeq λ_=>(#[]:Cm))).push (seqObj "tuple" vs.toArray 0)).push (seqObj "list" #[] 0)):=zm;have LO:(((s.heap.update a (Obj.mapSeq λ_=>(#[]:Cm))).push (seqObj "tuple" vs.toArray 0)).push (seqObj "list" #[] 0)).get? a=some (seqObj "list" #[] e1):=Heap.get?_push_of_some _ (Heap.get?_push_of_some _ Ul);generalize ((s.heap.update a (Obj.mapSeq λ_=>(#[]:Cm))).push (seqObj "tuple" vs.toArray 0)).push (seqObj "list" #[] 0)=h6 at kp LO |-
 have fin:∀p,Pm vs.length r p->Up r p vs.length->P (.done (.ret .none)) {s with heap:=h6.update a (Obj.mapSeq λ_=>(cN vs p).toArray)}:=λp pm up=>by
  obtain⟨c2,HM⟩:∃c2,(h6.update a (Obj.mapSeq λ_=>(cN vs p).toArray)).get? a=some (seqObj "list" (cN vs p).toArray c2):=⟨_,get?_update_seq LO λ_=>(cN vs p).toArray⟩;exact hP _ p c2 (λb o hb e=>by rw[Heap.get?_update_ne _ _ _ _ hb];exact kp b o hb e) HM pm up
 have last:∀p,Pm vs.length r p->(List.toArray (cN vs p)).size<=sizeLine:=λp pm=>by rw[List.size_toArray,u9 pm];exact cV h64
 dsimp only
 by_cases h2:vs.toArray.size<2
 ·have small:vs.length<2:=by simpa using h2
  rw[if_pos h2,if_pos h2];refine wpAny_bind (wpAny_pure ?_);rw[StateT.run_pure];refine wpAny_bind (wpAny_pure ?_)
  have hm:(arrOf (SortSt.mk' general' (vs.toArray.zip vs.toArray) #[] 7 none)).map (·.2)=(cN vs (List.range vs.length).toArray).toArray:=by
   rw[ql];show(vs.toArray.zip vs.toArray).map (·.2)=vs.toArray;apply Array.toList_inj.mp;simp[List.map_snd_zip]
  have P0:Pm vs.length r (List.range vs.length).toArray:=qp inj (Array.Perm.refl _)
  have U0:Up r (List.range vs.length).toArray vs.length:=λi j HJ hj=>by omega
  dsimp only;rw[hm];refine wpAny_bind (seqEpoch_at LO rfl (wpAny_bind (listUpdate_at LO rfl ?_ (Nat.zero_le _) (Nat.le_succ_of_le (last _ P0)))));simp only[bne_self_eq_false,Bool.false_eq_true,if_false];exact wpAny_pure (fin _ P0 U0)
 ·have big:2<=vs.length:=by simpa using h2
  rw[if_neg h2,if_neg h2];obtain⟨κ,Hi,K4⟩:=hk big h6 kp;refine wpAny_bind (wpAny_mono (Hi (λκ' s0=>(kas_sort vs.length).kasWp (kas_ask prog w A κ' vs) (λp s'=>s'={s with heap:=h6}/\Pm vs.length r p/\Up r p vs.length) s0) (tV (n:=vs.length) (r:=r) inj K4 (by omega) (Q:=λp s'=>s'={s with heap:=h6}/\Pm vs.length r p/\Up r p vs.length) λp pm up=>⟨rfl,pm,up⟩)) (λκ' s0 hw=>?_) λ_ _ x=>x.elim);refine wpAny_bind (wpAny_mono (kat_run (κ:=κ') (Q:=λGj s'=>∃p:Array Nat,arrOf Gj=p.map (kas_item (vs.toArray.zip vs.toArray))/\failedOf Gj=none/\s'={s with heap:=h6}/\Pm vs.length r p/\Up r p vs.length) rfl big h64 (λp' Gj s' _ a2 a3 a4=>⟨p',a2,a3,a4⟩) hw) ?_ λ_ _ e=>e);rintro⟨⟨⟩,Gj⟩ s' ⟨p,ME,hf,rfl,pm,up⟩;dsimp only;rw[kat_snds rfl ME];refine wpAny_bind (seqEpoch_at LO rfl (wpAny_bind (listUpdate_at LO rfl ?_ (Nat.zero_le _) (Nat.le_succ_of_le (last _ pm)))));rw[hf];simp only[bne_self_eq_false,Bool.false_eq_true,if_false];exact wpAny_pure (fin p pm up)
theorem vz {l:Addr}{r:Nat->Nat}{Q:yg}(hl:s.heap.IsList l vs.toArray)(h64:vs.length<64)
 (inj:∀i j,i<vs.length->j<vs.length->i≠j->r i≠r j)
 (hk:2<=vs.length->∀h',(∀b o,s.heap.get? b=some o->h'.get? b=some o)->nh prog w A.in1.in1 vs r {s with heap:=h'})
 (hQ:∀h' D p c,(∀b o,s.heap.get? b=some o->h'.get? b=some o)->s.heap.get? D=none->h'.get? D=some (seqObj "list" (cN vs p).toArray c)->Pm vs.length r p->Up r p vs.length->Q (.ref D) {s with heap:=h'}):
 wpAny (model prog w) A (call (.builtin "sorted") [.ref l]) Q E s:=by
 refine Calls.call_function_entry kind_sorted plain_sorted entry_sorted (args_sorted1 _) ?_;unfold Builtin.«sorted»;refine wpAny_bind (m:=checkCount "sorted" 1 1 _) (wpAny_pure (wpAny_bind (collect_list hl (wpAny_bind (wpAny_newList ?_ (cV h64))) (cV h64))))
 have sz:((s.heap.push (seqObj "list" #[] 0)).update s.heap.objs.size (Obj.mapSeq (·++vs.toArray))).objs.size=s.heap.objs.size+1:=by rw[Heap.size_update];exact size_push' _ _
 have Jv:(((s.heap.push (seqObj "list" #[] 0)).update s.heap.objs.size (Obj.mapSeq (·++vs.toArray))).push (seqObj "list" vs.toArray 0)).get? (s.heap.objs.size+1)=some (seqObj "list" vs.toArray 0):=by
  rw[<-sz];exact Heap.get?_push_size _ rfl
 have old:∀b o,s.heap.get? b=some o->(((s.heap.push (seqObj "list" #[] 0)).update s.heap.objs.size (Obj.mapSeq (·++vs.toArray))).push (seqObj "list" vs.toArray 0)).get? b=some o:=λb o q=>by
  have lt:b<s.heap.objs.size:=Heap.lt_size q;refine Heap.get?_push_of_some _ ?_;rw[Heap.get?_update_ne _ _ _ _ (Nat.ne_of_lt lt)];exact Heap.get?_push_of_some _ q
 have new:s.heap.get? (s.heap.objs.size+1)=none:=Heap.get?_none_of_le (Nat.le_succ _);show wpAny _ _ _ _ _ {s with heap:=((s.heap.push (seqObj "list" #[] 0)).update s.heap.objs.size (Obj.mapSeq (·++vs.toArray))).push (seqObj "list" vs.toArray 0)};rw[sz];generalize ((s.heap.push (seqObj "list" #[] 0)).update s.heap.objs.size (Obj.mapSeq (·++vs.toArray))).push (seqObj "list" vs.toArray 0)=h5 at Jv old |-;have kp:∀h',vU (s.heap.objs.size+1) h5 h'->∀b o,s.heap.get? b=some o->h'.get? b=some o:=λh' k b o q=>k b o (λz=>by rw[z,new] at q;cases q) (old b o q);refine wpAny_bind (wpAny_holding (wpAny_call_entry slot_list_sort ⟨_,Jv,rfl⟩ entry_list_sort (nJ (s:={s with heap:=h5}) (r:=r) Jv h64 inj (λb h' k=>hk b h' (kp h' k)) λh' p c k e pm up=>⟨_,rfl,?_⟩) (args_list_sort _)));exact wpAny_pure ⟨_,rfl,hQ h' _ p c (kp h' k) new e pm up⟩
end
open L2
noncomputable abbrev Ky:=Int×List Int
noncomputable def lz (a b:Ky):Bool:=if a.1=b.1 then HT.cM a.2 b.2 else decide (a.1<b.1)
theorem kc:∀xs:List Int,HT.cM xs xs=false
 |[]=>rfl
 |x::xs=>by rw[HT.dD,if_pos rfl];exact kc xs
theorem mJ:∀{xs ys zs:List Int},HT.cM xs ys=true->HT.cM ys zs=true->HT.cM xs zs=true
 |[],[],_,h,_=>by cases h
 |[],y::ys,[],_,h=>by cases h
 |[],y::ys,z::zs,_,_=>rfl
 |x::xs,[],_,h,_=>by cases h
 |x::xs,y::ys,[],_,h=>by cases h
 |x::xs,y::ys,z::zs,h1,h2=>by
  rw[HT.dD] at h1 h2 |-
  by_cases e1:x=y
  ·rw[if_pos e1] at h1
   by_cases e2:y=z
   ·rw[if_pos e2] at h2;rw[if_pos (e1.trans e2)];exact mJ h1 h2
   ·rw[if_neg e2] at h2;rw[e1,if_neg e2];exact h2
  ·rw[if_neg e1] at h1;have l1:=of_decide_eq_true h1
   by_cases e2:y=z
   ·rw[<-e2,if_neg e1];exact h1
   ·rw[if_neg e2] at h2;have l2:=of_decide_eq_true h2;rw[if_neg (by omega)];exact decide_eq_true (by omega)
theorem mR:∀{xs ys:List Int},xs≠ys->HT.cM xs ys=true\/HT.cM ys xs=true
 |[],[],h=>absurd rfl h
 |[],y::ys,_=>.inl rfl
 |x::xs,[],_=>.inr rfl
 |x::xs,y::ys,h=>by
  rw[HT.dD,HT.dD]
  by_cases e:x=y
  ·subst e;rw[if_pos rfl,if_pos rfl];exact mR λz=>h (by rw[z])
  ·rw[if_neg e,if_neg (Ne.symm e)];simp only[decide_eq_true_eq];omega
theorem kM (a:Ky):lz a a=false:=by unfold lz;rw[if_pos rfl];exact kc _
theorem iU {a b c:Ky}(h1:lz a b=true)(h2:lz b c=true):lz a c=true:=by
 unfold lz at h1 h2 |-
 by_cases e1:a.1=b.1
 ·rw[if_pos e1] at h1
  by_cases e2:b.1=c.1
  ·rw[if_pos e2] at h2;rw[if_pos (e1.trans e2)];exact mJ h1 h2
  ·rw[if_neg e2] at h2;rw[e1,if_neg e2];exact h2
 ·rw[if_neg e1] at h1;have l1:=of_decide_eq_true h1
  by_cases e2:b.1=c.1
  ·rw[<-e2,if_neg e1];exact h1
  ·rw[if_neg e2] at h2;have l2:=of_decide_eq_true h2;rw[if_neg (by omega)];exact decide_eq_true (by omega)
theorem iS {a b:Ky}(h:a≠b):lz a b=true\/lz b a=true:=by
 unfold lz
 by_cases e:a.1=b.1
 ·rw[if_pos e,if_pos e.symm];exact mR λz=>h (Prod.ext e z)
 ·rw[if_neg e,if_neg (Ne.symm e)];simp only[decide_eq_true_eq];omega
noncomputable def cJ (ks:List Ky)(i:Nat):Ky:=ks.getD i (0,[])
noncomputable def rk (ks:List Ky)(i:Nat):Nat:=(List.range ks.length).countP λj=>lz (cJ ks j) (cJ ks i)
theorem mz {α:Type}{p q:α->Bool}:∀{l:List α},(∀x∈l,p x=true->q x=true)->(∃x∈l,q x=true/\p x=false)->l.countP p<l.countP q
 |[],_,⟨x,hx,_⟩=>by cases hx
 |a::l,h,⟨x,hx,h1,h2⟩=>by
  have le:∀l':List α,(∀x∈l',p x=true->q x=true)->l'.countP p<=l'.countP q:=λl' h'=>List.countP_mono_left h';rw[List.countP_cons,List.countP_cons]
  rcases List.mem_cons.mp hx with rfl|hx
  ·rw[if_pos h1,if_neg (by rw[h2];exact Bool.false_ne_true)];have:=le l λx hx=>h x (List.mem_cons_of_mem _ hx);omega
  ·have ih:=mz (l:=l) (λx hx=>h x (List.mem_cons_of_mem _ hx)) ⟨x,hx,h1,h2⟩;have h0:=h a List.mem_cons_self
   cases e:p a with
   |false=>simp only[Bool.false_eq_true,if_false];omega
   |true=>rw[h0 e];simp only[if_true];omega
variable {ks:List Ky}
theorem ic {i:Nat}(hi:i<ks.length)(h:lz (cJ ks i) (cJ ks j)=true):rk ks i<rk ks j :=
 mz (λl _ hl=>iU hl h) ⟨i,List.mem_range.mpr hi,h,kM _⟩
theorem wj {i:Nat}(hi:i<ks.length)(hj:j<ks.length):decide (rk ks i<rk ks j)=lz (cJ ks i) (cJ ks j):=by
 cases e:lz (cJ ks i) (cJ ks j) with
 |true=>exact decide_eq_true (ic hi e)
 |false =>
  refine decide_eq_false λz=>?_
  by_cases k:cJ ks i=cJ ks j
  ·unfold rk at z;rw[k] at z;exact Nat.lt_irrefl _ z
  ·rcases iS k with h|h
   ·rw[e] at h;cases h
   ·exact Nat.lt_asymm z (ic hj h)
theorem x8 (nd:ks.Nodup):∀i j,i<ks.length->j<ks.length->i≠j->rk ks i≠rk ks j:=λi j hi hj FX z=>by
 have k:cJ ks i≠cJ ks j:=λe=>by
  have e':ks[i]=ks[j]:=by
   unfold cJ at e;simpa[hi,hj] using e
  have pw:=List.pairwise_iff_getElem.mp (show ks.Pairwise (· ≠ ·) from nd)
  rcases Nat.lt_or_gt_of_ne FX with l|l
  ·exact pw i j _ _ l e'
  ·exact pw j i _ _ l e'.symm
 rcases iS k with h|h
 ·have:=ic hi h;omega
 ·have:=ic hj h;omega
noncomputable def sV (K:Frag)(H:Hp)(x:V)(k:Ky):Prop:=∃a b rest,x=.ref a/\bf K H a (.int k.1 :: .ref b::rest)/\bf K H b (k.2.map V.int)
noncomputable def cS (K:Frag)(H:Hp):List V->List Ky->Prop
 |[],[]=>True
 |x::xs,k::ks=>sV K H x k/\cS K H xs ks
 |_,_=>False
variable {K:Frag}{H:Hp}
theorem cS.len :∀{xs:List V}{ks:List Ky},cS K H xs ks->xs.length=ks.length
 |[],[],_=>rfl
 |_::_,_::_,⟨_,r⟩=>congrArg (·+1) r.len
 |[],_::_,h=>h.elim
 |_::_,[],h=>h.elim
theorem cS.get :∀{xs:List V}{ks:List Ky}{i:Nat}{x:V},cS K H xs ks->xs[i]?=some x->sV K H x (cJ ks i)
 |x::xs,k::ks,0,y,⟨h,_⟩,e=>by simp at e;subst e;exact h
 |x::xs,k::ks,i+1,y,⟨_,r⟩,e=>by
  have:=r.get (i:=i) (x:=y) (by simpa using e);simpa[cJ] using this
 |[],[],i,y,_,e=>by simp at e
 |[],_::_,_,_,h,_=>h.elim
 |_::_,[],_,_,h,_=>h.elim
theorem cw :∀ns:List Int,bh K H (ns.map D.int) (ns.map V.int)
 |[]=>by unfold bh;rfl
 |n::ns=>by unfold bh;exact⟨_,_,rfl,by unfold aH;rfl,cw ns⟩
theorem vY (ns:List Int):jn (.tup (ns.map D.int))<=1:=by
 unfold jn
 have:∀ms:List Int,gL (ms.map D.int)=0:=λms=>by
  induction ms with
  |nil=>unfold gL;rfl
  |cons m ms ih=>rw[List.map_cons];unfold gL;rw[ih];unfold jn;rfl
 rw[this];omega
theorem qk:∀ns ms:List Int,dI (ns.map D.int) (ms.map D.int)=decide (ns=ms)
 |[],[]=>by simp;rfl
 |[],m::ms=>by simp;rfl
 |n::ns,[]=>by simp;rfl
 |n::ns,m::ms=>by
  show((n==m)&&dI (ns.map D.int) (ms.map D.int))=_;rw[qk ns ms]
  by_cases e:n=m
  ·subst e;simp
  ·simp[e]
variable {xs:List V}{us:qw}
section
variable {X:Cx}{pins:List (Addr×Obj)}{σ:L2.St}{H:Hp}{s:Fp}
theorem zw {A:Around}{x y:V}{u v:Value}{k j:Ky}{C:Bool->Shared->Prop}{E:yg}(I:Inv X pins σ H s)(hA:A.units+2<cLine)(hx:sV X.K H x k)(hy:sV X.K H y j)(rx:aC x u)(ry:aC y v)(ne:k≠j)(h:C (lz k j) s):
 wpAny (model X.prog X.w) A (keyLt' (tuples' true) u v) C E s:=by
 obtain⟨a,b,rest,rfl,h1,h2⟩:=hx;obtain⟨a',b',Um,rfl,Jz,JU⟩:=hy
 cases(show u=Value.ref a from rx)
 cases(show v=Value.ref a' from ry)
 obtain⟨its,r1,⟨o1,g1,_,n1,d1⟩,_⟩:=I.tuple h1;obtain⟨its',Pc,⟨o1',My,_,n1',WO⟩,_⟩:=I.tuple Jz;refine kat_lt g1 d1 My WO ?_
 cases r1 with
 |cons q1 r1 =>
  cases r1 with
  |cons q2 r1 =>
   cases Pc with
   |cons WQ Pc =>
    cases Pc with
    |cons WR Pc =>
     obtain⟨t,rfl⟩:=q1;obtain⟨t',rfl⟩:=WQ
     rename_i w2 _ WS _
     cases(show w2=Value.ref b from q2)
     cases(show WS=Value.ref b' from WR)
     show KatLex _ _ _ _ _ _ ((Value.int k.1 t,Value.int j.1 t'):: (Value.ref b,Value.ref b'):: _) 0 s;refine kat_cons (SeqAt.EqAt.int_int k.1 t j.1 t' X.prog X.w _ _ ?_)
     have klt_def:lz k j=if k.1=j.1 then HT.cM k.2 j.2 else decide (k.1<j.1):=rfl
     refine kat_go (λe=>kat_yes ?_) λe=>kat_no ?_
     ·have e1:k.1=j.1:=by simpa using e
      have n2:k.2≠j.2:=λz=>ne (Prod.ext e1 z);have dd:=(eA I 1 A (.tup (k.2.map D.int)) (.tup (j.2.map D.int)) (.ref b) (.ref b') (.ref b) (.ref b') (vY _) (by omega) (by unfold aH;exact⟨b,_,rfl,h2,cw _⟩) (by unfold aH;exact⟨b',_,rfl,JU,cw _⟩) rfl rfl).2.1;have e2:gH (.tup (k.2.map D.int)) (.tup (j.2.map D.int))=false:=(qk _ _).trans (decide_eq_false n2);rw[e2] at dd;refine kat_cons (dd X.prog X.w _ _ (kat_no ?_));rw[klt_def,if_pos e1] at h;obtain⟨FK,p2,t2,_⟩:=I.tuple h2;obtain⟨Uo,WT,WU,_⟩:=I.tuple JU;exact kat_one _ _ (HT.abH t2 WU (jL p2) (jL WT) (by omega) h)
     ·have e1:k.1≠j.1:=by simpa using e
      rw[klt_def,if_neg e1] at h;exact oneLt_int h
theorem Av (I:Inv X pins σ H s)(xs:List V):∀(ks:List Ky)(us:qw),cS X.K H xs ks->aG xs us->∃fs:List Value,KatTups s.heap us fs/\fs.length=us.length/\∀f∈fs,∃i t,f=Value.int i t:=by
 induction xs with
 |nil =>
  intro ks us _ r
  cases r
  exact⟨[],.nil,rfl,λf hf=>by cases hf⟩
 |cons x xs ih =>
  intro ks us h r
  cases ks with
  |nil=>exact h.elim
  |cons k ks =>
   cases r with
   |cons rx rv =>
    rename_i u us
    obtain⟨⟨a,b,rest,e,h1,_⟩,hr⟩:=h;obtain⟨fs,t,hl,hf⟩:=ih ks us hr rv;subst e
    cases(show u=Value.ref a from rx)
    obtain⟨its,r1,⟨o1,g1,c1,n1,d1⟩,_⟩:=I.tuple h1
    cases r1 with
    |cons q1 r1 =>
     obtain⟨tk,rfl⟩:=q1;refine⟨Value.int k.1 tk::fs,.cons g1 c1 d1 rfl t,by simp[hl],λf WV=>?_⟩
     rcases List.mem_cons.mp WV with rfl|z
     ·exact⟨_,_,rfl⟩
     ·exact hf f z
theorem jF {A:Around}(I:Inv X pins σ H s)(hA:A.units+2<cLine)(hk:cS X.K H xs ks)(rv:aG xs us)(nd:ks.Nodup)(h2:2<=us.length):nh X.prog X.w A us (rk ks) s:=by
 obtain⟨fs,t,hl,hf⟩:=Av I xs ks us hk rv;have Cj:=hk.len;have vZ:=rv.length;refine⟨tuples' true,λQ hq=>kat_kind (T:=Value.type "int") t (by omega) (λv hv=>?_) (by decide) hq,λi j C hi hj FX hc=>?_⟩
 ·obtain⟨i,tk,rfl⟩:=hf v hv;exact .now
 ·have gi:∃x,xs[i]?=some x/\aC x (us.getD i .none):=by
   have Uq:i<xs.length:=by omega
   obtain⟨u,e,r⟩:=rv.get (i:=i) (x:=xs[i]) (by simp[Uq]);refine⟨xs[i],by simp[Uq],?_⟩;rw[List.getD_eq_getElem?_getD,e];exact r
  have gj:∃x,xs[j]?=some x/\aC x (us.getD j .none):=by
   have Ur:j<xs.length:=by omega
   obtain⟨u,e,r⟩:=rv.get (i:=j) (x:=xs[j]) (by simp[Ur]);refine⟨xs[j],by simp[Ur],?_⟩;rw[List.getD_eq_getElem?_getD,e];exact r
  obtain⟨x,ex,rx⟩:=gi;obtain⟨y,ey,ry⟩:=gj;rw[wj (by omega) (by omega)] at hc
  have WW:cJ ks i≠cJ ks j:=λz=>by
   have e':ks[i]'(by omega)=ks[j]'(by omega):=by
    unfold cJ at z;simpa[show i<ks.length by omega,show j<ks.length by omega] using z
   have pw:=List.pairwise_iff_getElem.mp (show ks.Pairwise (· ≠ ·) from nd)
   rcases Nat.lt_or_gt_of_ne FX with l|l
   ·exact pw i j _ _ l e'
   ·exact pw j i _ _ l e'.symm
  exact zw I hA (hk.get ex) (hk.get ey) rx ry WW hc
end
section
variable {α:Type}
noncomputable def lJ (k:Ky)(x:α):List (Ky×α)->List (Ky×α)
 |[]=>[(k,x)]
 |(j,y):: r=>if lz k j=true then(k,x):: (j,y):: r else(j,y):: lJ k x r
noncomputable def cA:List (Ky×α)->List (Ky×α)
 |[]=>[]
 |(k,x):: r=>lJ k x (cA r)
theorem iF (k:Ky)(x:α):∀l:List (Ky×α),(lJ k x l).Perm ((k,x):: l)
 |[]=>.refl _
 |(j,y):: r=>by
  unfold lJ
  split
  ·exact .refl _
  ·exact((iF k x r).cons _).trans (.swap _ _ _)
theorem cy:∀l:List (Ky×α),(cA l).Perm l
 |[]=>.refl _
 |(k,x):: r=>(iF k x _).trans ((cy r).cons _)
noncomputable def A7 (l:List (Ky×α)):Prop:=l.Pairwise λa b=>lz a.1 b.1=true
theorem um {k:Ky}{x:α}:∀{l:List (Ky×α)},A7 l->(∀p∈l,p.1≠k)->A7 (lJ k x l)
 |[],_,_=>List.pairwise_singleton _ _
 |(j,y):: r,h,hn=>by
  obtain⟨h1,h2⟩:=List.pairwise_cons.mp h;unfold lJ
  by_cases e:lz k j=true
  ·rw[if_pos e];refine List.pairwise_cons.mpr ⟨λp hp=>?_,h⟩
   rcases List.mem_cons.mp hp with rfl|hp
   ·exact e
   ·exact iU e (h1 p hp)
  ·rw[if_neg e];have jk:lz j k=true:=(iS (hn _ List.mem_cons_self)).resolve_right e;refine List.pairwise_cons.mpr ⟨λp hp=>?_,um h2 λp hp=>hn p (List.mem_cons_of_mem _ hp)⟩
   rcases List.mem_cons.mp ((iF k x r).mem_iff.mp hp) with rfl|hp
   ·exact jk
   ·exact h1 p hp
theorem jG:∀{l:List (Ky×α)},(l.map (·.1)).Nodup->A7 (cA l)
 |[],_=>.nil
 |(k,x):: r,h=>by
  obtain⟨h1,h2⟩:=List.nodup_cons.mp h;exact um (jG h2) λp hp z=>h1 (z▸List.mem_map_of_mem (f:=(·.1)) ((cy r).mem_iff.mp hp))
theorem mh:∀{l1 l2:List (Ky×α)},A7 l1->A7 l2->l1.Perm l2->l1=l2
 |[],l2,_,_,p=>(List.nil_perm.mp p).symm
 |a::l1,[],_,_,p=>(List.nil_perm.mp p.symm)
 |a::l1,b::l2,h1,h2,p=>by
  obtain⟨u1,v1⟩:=List.pairwise_cons.mp h1;obtain⟨u2,v2⟩:=List.pairwise_cons.mp h2
  have e:a=b:=by
   rcases List.mem_cons.mp (p.mem_iff.mp List.mem_cons_self) with z|z
   ·exact z
   ·rcases List.mem_cons.mp (p.mem_iff.mpr (List.mem_cons_self (a:=b) (l:=l2))) with w|w
    ·exact w.symm
    ·have c1:=u2 a z;have c2:=u1 b w;have c3:=iU c1 c2;rw[kM] at c3
     cases c3
  subst e;rw[mh v1 v2 (List.Perm.cons_inv p)]
theorem p9 {l1 l2:List (Ky×α)}(nd:(l2.map (·.1)).Nodup)(h:A7 l1)(p:l1.Perm l2):l1=cA l2:=mh h (jG nd) (p.trans (cy l2).symm)
end
noncomputable def DB (xs:List V)(p:Array Nat):List V:=p.toList.map λi=>xs.getD i .non
theorem p4 (rv:aG xs us){r:Nat->Nat}(P:Pm n r p)(hn:n<=xs.length):aG (DB xs p) (cN us p):=by
 have key:∀l:List Nat,(∀i∈l,i<xs.length)->aG (l.map λi=>xs.getD i .non) (l.map λi=>us.getD i Value.none):=by
  intro l
  induction l with
  |nil=>intro _;exact .nil
  |cons i l ih =>
   intro h;have hi:=h i List.mem_cons_self;obtain⟨u,e,r⟩:=rv.get (i:=i) (x:=xs[i]) (by simp[hi]);refine .cons ?_ (ih λj hj=>h j (List.mem_cons_of_mem _ hj));show aC (xs.getD i .non) (us.getD i Value.none);rw[List.getD_eq_getElem?_getD,List.getD_eq_getElem?_getD,e,show xs[i]?=some xs[i] by simp[hi]];exact r
 refine key p.toList λi hi=>?_
 have z:i∈(List.range n):=by
  have pl:p.toList.Perm (List.range n):=by simpa using P.perm.toList
  exact pl.mem_iff.mp hi
 have:=List.mem_range.mp z;omega
theorem qx (hl:xs.length=ks.length)(nd:ks.Nodup)(P:Pm xs.length (rk ks) p)(U:Up (rk ks) p xs.length):DB xs p=(cA (ks.zip xs)).map (·.2):=by
 have pl:p.toList.Perm (List.range xs.length):=by simpa using P.perm.toList
 have e1:(List.range xs.length).map (λi=>(cJ ks i,xs.getD i V.non))=ks.zip xs:=by
  apply List.ext_getElem
  ·simp[hl]
  ·intro i h1 h2
   have hi:i<xs.length:=by simpa using h1
   have hk:i<ks.length:=by omega
   simp[cJ,hi,hk]
 have z:p.toList.map (λi=>(cJ ks i,xs.getD i V.non))=cA (ks.zip xs):=by
  refine p9 ?_ ?_ ?_
  ·rw[List.map_fst_zip (by omega)];exact nd
  ·unfold A7;rw[List.pairwise_map];refine List.pairwise_iff_getElem.mpr λi j hi hj HJ=>?_;have sz:=P.size;rw[Array.length_toList] at hi hj;have u:=U i j HJ (by omega)
   have gi:p.getD i 0=p.toList[i]:=by simp[Array.getD,hi]
   have gj:p.getD j 0=p.toList[j]:=by simp[Array.getD,hj]
   rw[gi,gj] at u
   have bi:p.toList[i]<ks.length:=by rw[<-gi,<-hl];exact P.lt i (by omega)
   have bj:p.toList[j]<ks.length:=by rw[<-gj,<-hl];exact P.lt j (by omega)
   rw[<-wj bi bj];exact decide_eq_true u
  ·exact(pl.map _).trans (by rw[e1])
 rw[<-z,List.map_map];rfl
noncomputable def DQ (K:Frag):List V->Hp->VK->Prop:=λvs H Q=>∃l xs ks,vs=[.ref l]/\aY K H l xs/\xs.length<64/\cS K H xs ks/\ks.Nodup/\∀D,H D=none->Q (.ref D) (upd H D (.lst ((cA (ks.zip xs)).map (·.2))))
section
variable {X:Cx}{k:Nat}
theorem pZ (hr:om (k+2) X.A):bZ X (.builtin "sorted") (DQ X.K):=by
 intro pins s σ H vs us Q I r h;obtain⟨l,xs,ks,rfl,hl,h64,hk,nd,q⟩:=h;obtain⟨u,rfl,ru⟩:=fE r
 cases(show u=Value.ref l from ru)
 obtain⟨its,rv,pl,hz⟩:=I.list hl;have ln:=rv.length;have lk:=hk.len;have inj:=x8 nd;refine vz (r:=rk ks) pl.isList (by omega) (λi j hi hj=>inj i j (by omega) (by omega)) (λh2 h' kp=>?_) λh' D p c kp hD e pm up=>?_
 ·exact jF (s:={s with heap:=h'}) (I.kept (t':=s.toks) kp) (by have:=(hr.in1.in1).units;omega) hk rv nd h2
 ·have Us:Pm xs.length (rk ks) p:=by rw[ln];exact pm
  have WX:Up (rk ks) p xs.length:=by rw[ln];exact up
  have hv:=p4 rv Us (Nat.le_refl _);rw[qx lk nd Us WX] at hv
  have hlen:((cA (ks.zip xs)).map (·.2)).length<=sizeLine:=by
   rw[List.length_map,(cy _).length_eq,List.length_zip];exact Nat.le_trans (Nat.min_le_right _ _) (cV h64)
  exact⟨.ref D,_,I.newObj (t':=s.toks) (o:=.lst ((cA (ks.zip xs)).map (·.2))) kp hD ⟨hlen,_,c,hv,e⟩,rfl,q D (I.abS hD)⟩
end
noncomputable def mE (sp:Sp):List V->Hp->(List V->Hp->Prop)->Prop
 |[],H,R=>R [] H
 |x::xs,H,R=>sp [x] H (λk H1=>mE sp xs H1 λks H2=>R (k::ks) H2) λ_ _ _=>False
variable {b:Addr}{ob:Obj}
section
variable {X:Cx}{pins:List (Addr×Obj)}{σ:L2.St}{H:Hp}{s:Fp}
theorem vD {D:Addr}{o:HO}(I:Inv X pins σ H s)(f:cf X pins H D)(hD:X.s₀.heap.objs.size<=D)(new:ba X.prog X.w (upd H D o) s.heap D o):Inv X pins σ (upd H D o) s:=by
 obtain⟨f0,f1,f2,f3,f4,f5⟩:=f;have u:=I.base;refine⟨I.ok,I.os,I.bare,⟨u.keep,u.slot,λb' o' e n hx=>?_,u.there,λb' xs e=>?_,λb' o' u' e=>?_,λb' ps e=>?_⟩,I.loc,I.cell,?_,λx c e=>?_,λp hp=>?_,c6 I.hok f0 new,I.len⟩
 ·rw[ai (Nat.ne_of_lt (Nat.lt_of_lt_of_le (Heap.lt_size e) hD))];exact u.free b' o' e n hx
 ·rw[ai (av (u.aaC b' xs e) f0)];exact u.aaC b' xs e
 ·rw[ai (av (u.aaB b' o' u' e) f0)];exact u.aaB b' o' u' e
 ·obtain⟨m,q⟩:=u.aaI b' ps e;exact⟨m,by rw[ai (av q f0)];exact q⟩
 ·rw[ai (Ne.symm f1)];exact I.free
 ·rw[ai (f4 x c e)];exact I.aaz x c e
 ·obtain⟨e,n,r⟩:=I.pin p hp;exact⟨e,by rw[ai (f5 p hp)];exact n,r⟩
theorem zH {c:Addr}(f:cf X pins H b)(h:c≠b):cf X (pins++[(c,ob)]) H b:=by
 obtain⟨f0,f1,f2,f3,f4,f5⟩:=f;refine⟨f0,f1,f2,f3,f4,λp hp=>?_⟩;rw[<-List.append_assoc] at hp
 rcases List.mem_append.mp hp with z|z
 ·exact f5 p z
 ·have e:p=(c,ob):=by simpa using z
  subst e;exact h
theorem nv {H':Hp}(f:cf X pins H b)(h:H' b=none):cf X pins H' b:=⟨h,f.2⟩
theorem tI (I:Inv X pins σ H s)(f:cf X pins H b)(e:s.heap.get? b=some ob)(d:∀v,ob.data≠.cell v):Inv X (pins++[(b,ob)]) σ H s:=I.aaG λp hp=>by
 rcases List.mem_append.mp hp with z|z
 ·exact I.pin p (List.mem_append_right _ z)
 ·have e1:p=(b,ob):=by simpa using z
  subst e1;exact⟨e,f.1,f.2.1,f.2.2.1,d⟩
theorem lX (I:Inv X (pins++[(b,ob)]) σ H s):Inv X pins σ H s:=I.aaG λp hp=>I.pin p (List.mem_append_right _ (List.mem_append_left _ hp))
theorem yF (I:Inv X (pins++[(b,ob)]) σ H s):s.heap.get? b=some ob/\H b=none:=by
 obtain⟨e,n,_⟩:=I.pin (b,ob) (List.mem_append_right _ (List.mem_append_right _ (by simp)));exact⟨e,n⟩
end
theorem lx {c:String}{xs:Cm}:∀v,(seqObj c xs n).data≠.cell v:=λv z=>by cases z
variable {s:Fp}{Q:VK}
section
variable {X:Cx}{pins:List (Addr×Obj)}{σ:L2.St}{k:Nat}{f:Addr}{fd:ET}{ps:wk}{sp:Sp}{A:Around}{E:yg}
theorem vT {x:V}{u:Value}(F:Bu X.prog X.w X.K X.mg X.base (aS X.prog X.w) k f fd ps sp)(hr:om k A)(hA:∀H s,Inv X pins σ H s->BZ X.prog X.w X.K X.mg X.base A X.stack s H)(hb:aA X.K fd ps [])(I:Inv X pins σ H s)(r:aC x u)(h:sp [x] H Q λ_ _ _=>False):
 wpAny (model X.prog X.w) A (call (.ref f) [u]) (EP X pins σ Q) (λ_ _=>False) s:=by
 have hl:([u]:qw).length+([]:qw).length=ps.length:=by have:=F.len _ _ _ _ h;simpa using this
 have bd:=hb s [u] I.kIn hl;rw[List.append_nil] at bd;refine wpAny_call (codeAny_mono (F.run A X.stack s H ⟨[u],[]⟩ [u] [x] Q _ hr (hA H s I) bd (.cons r .nil) h) λres s' hq=>?_)
 cases res with
 |error e =>
  obtain⟨a,cls,a0,B,d,H',_,_,_,_,hE⟩:=hq;exact hE.elim
 |ok fl =>
  cases fl with
  |ret v=>exact I.after hq
  |next=>exact False.elim hq
  |brk=>exact False.elim hq
  |cont=>exact False.elim hq
end
noncomputable abbrev jZ (X:Cx)(xs:List V)(Q:VK):List V->Hp->Prop:=λks H2=>∃kz,cS X.K H2 ks kz/\kz.Nodup/\∀D,H2 D=none->Q (.ref D) (upd H2 D (.lst ((cA (kz.zip xs)).map (·.2))))
section
variable {X:Cx}{pins:List (Addr×Obj)}{σ:L2.St}{k:Nat}{f:Addr}{fd:ET}{ps:wk}{sp:Sp}{A:Around}{E:yg}
theorem yW {ks:qw}(h:ks.length=vs.length):((ks.toArray.zip vs.toArray).map (·.2))=vs.toArray:=by
 apply Array.toList_inj.mp;rw[Array.toList_map,ksk_zip];simp only[List.toList_toArray] at *;exact List.map_snd_zip (by omega)
theorem uy {D kS:Addr}{e1 c:Nat}{kV:List V}{ks:qw}{P:PySem.Fin->Shared->Prop}(hA:A.units+2<cLine)(hD:X.s₀.heap.objs.size<=D)(fD:cf X pins H D)(fS:cf X pins H kS)(ne:kS≠D)
 (I:Inv X pins σ H s)(eD:s.heap.get? D=some (seqObj "list" #[] e1))(eS:s.heap.get? kS=some (seqObj "list" ks.toArray c))(rx:aG xs us)(K5:aG kV ks)(hl:kV.length=xs.length)(h64:xs.length<64)(w:jZ X xs Q kV H)
 (hP:∀s',EP X pins σ Q (.ref D) s'->P (.done (.ret .none)) s'):wpAny (model X.prog X.w) A (ksk_end D false us.toArray e1 (.ref kS) ks.toArray) P E s:=by
 obtain⟨kz,hk,nd,q⟩:=w;have l1:=rx.length;have l2:=K5.length;have l3:=hk.len;have inj:=x8 nd
 have fin:∀p,Pm xs.length (rk kz) p->Up (rk kz) p xs.length->∀st:SortSt,(arrOf st).map (·.2)=(cN us p).toArray->failedOf st=none->wpAny (model X.prog X.w) A (ksk_tail D false e1 (.ref kS) st) P E s:=λp pm up st ME hf=>by
  have QM:=p4 rx pm (Nat.le_refl _);rw[qx (by omega) nd pm up] at QM
  have hlen:((cA (kz.zip xs)).map (·.2)).length<=sizeLine:=by
   rw[List.length_map,(cy _).length_eq,List.length_zip];exact Nat.le_trans (Nat.min_le_right _ _) (cV h64)
  have QN:(cN us p).toArray.size<=sizeLine:=by rw[List.size_toArray,<-QM.length];exact hlen
  have J5:=Heap.SameBut.update s.heap kS (Obj.mapSeq λ_=>(#[]:Cm));have IC:(s.heap.update kS (Obj.mapSeq λ_=>(#[]:Cm))).get? D=some (seqObj "list" #[] e1):=(J5.2 D (Ne.symm ne)).trans eD;have I1:Inv X pins σ H {s with heap:=s.heap.update kS (Obj.mapSeq λ_=>(#[]:Cm))}:=b9 I fS J5;unfold ksk_tail;dsimp only;rw[ME];refine wpAny_bind (listUpdate_at eS rfl (wpAny_bind (wpAny_letGo ?_)) (by rw[List.size_toArray,<-l2,hl];exact cV h64) (Nat.zero_le _));generalize s.heap.update kS (Obj.mapSeq λ_=>(#[]:Cm))=h1 at IC I1 |-;have J6:=Heap.SameBut.update h1 D (Obj.mapSeq λ_=>(cN us p).toArray);obtain⟨c2,HM⟩:∃c2,(h1.update D (Obj.mapSeq λ_=>(cN us p).toArray)).get? D=some (seqObj "list" (cN us p).toArray c2):=⟨_,get?_update_seq IC λ_=>(cN us p).toArray⟩;have I2:Inv X pins σ H {s with heap:=h1.update D (Obj.mapSeq λ_=>(cN us p).toArray)}:=b9 (s:={s with heap:=h1}) I1 fD J6;have I3:=vD (o:=.lst ((cA (kz.zip xs)).map (·.2))) I2 fD hD ⟨hlen,_,c2,QM,HM⟩;refine wpAny_bind (seqEpoch_at IC rfl (wpAny_bind (listUpdate_at IC rfl ?_ (Nat.zero_le _) (Nat.le_succ_of_le QN))));rw[hf];simp only[bne_self_eq_false,Bool.false_eq_true,if_false];exact wpAny_pure (hP _ ⟨.ref D,_,I3,rfl,q D fD.1⟩)
 have P0:Pm xs.length (rk kz) (List.range xs.length).toArray:=qp (λi j hi hj=>inj i j (by omega) (by omega)) (Array.Perm.refl _);unfold ksk_end;dsimp only;rw[if_neg Bool.false_ne_true];simp only[Bool.false_eq_true,if_false]
 by_cases h2:us.toArray.size<2
 ·have small:xs.length<2:=by rw[l1];simpa using h2
  rw[if_pos h2,if_pos h2];refine wpAny_bind (wpAny_pure ?_);rw[StateT.run_pure];refine wpAny_bind (wpAny_pure ?_);refine fin (List.range xs.length).toArray P0 (λi j HJ hj=>by omega) _ ?_ rfl;show(ks.toArray.zip us.toArray).map (·.2)=_;rw[yW (by omega),l1,ql]
 ·have big:2<=us.length:=by simpa using h2
  rw[if_neg h2,if_neg h2];obtain⟨κ,Hi,K4⟩:=jF (A:=A) I hA hk K5 nd (by omega);refine wpAny_bind (wpAny_mono (Hi (λκ' s0=>(kas_sort us.length).kasWp (kas_ask X.prog X.w A κ' ks) (λp s'=>s'=s/\Pm us.length (rk kz) p/\Up (rk kz) p us.length) s0) (tV (n:=us.length) (r:=rk kz) (λi j hi hj=>inj i j (by omega) (by omega)) (λi j C hi hj=>K4 i j C (by omega) (by omega)) (by omega) λp pm up=>⟨rfl,pm,up⟩)) (λκ' s0 hw=>?_) λ_ _ x=>x.elim);refine wpAny_bind (wpAny_mono (kat_run (κ:=κ') (Q:=λGj s'=>∃p:Array Nat,arrOf Gj=p.map (kas_item (ks.toArray.zip us.toArray))/\failedOf Gj=none/\s'=s/\Pm us.length (rk kz) p/\Up (rk kz) p us.length) (by omega) big (by omega) (λp' Gj s' _ a2 a3 a4=>⟨p',a2,a3,a4⟩) hw) ?_ λ_ _ e=>e);rintro⟨⟨⟩,Gj⟩ s' ⟨p,ME,hf,rfl,pm,up⟩;exact fin p (by rw[l1];exact pm) (by rw[l1];exact up) Gj (kat_snds (by omega) ME) hf
theorem w8 {α:Type}{l:List α}{x:α}(h:l[j]?=some x):l.drop j=x::l.drop (j+1):=by
 obtain⟨hj,e⟩:=List.getElem?_eq_some_iff.mp h;rw[List.drop_eq_getElem_cons hj,e]
theorem lO {D:Addr}{P:PySem.Fin->Shared->Prop}(F:Bu X.prog X.w X.K X.mg X.base (aS X.prog X.w) k f fd ps sp)(hr:om k A)(hE:∀pins' H s,Inv X pins' σ H s->BZ X.prog X.w X.K X.mg X.base A X.stack s H)(hb:aA X.K fd ps [])
 (hD:X.s₀.heap.objs.size<=D)(fD:cf X pins H D)(I:Inv X pins σ H s)(eD:s.heap.get? D=some (seqObj "list" us.toArray n))(rx:aG xs us)(h64:xs.length<64)(h:mE sp xs H (jZ X xs Q))
 (hP:∀s',EP X pins σ Q (.ref D) s'->P (.done (.ret .none)) s'):wpAny (model X.prog X.w) A (ksk_tree D (.ref f) false) P E s:=by
 have l1:=rx.length
 have WY:us.toArray.size<=sizeLine:=by rw[List.size_toArray,<-l1];exact cV h64
 obtain⟨e1,IC⟩:∃e1,(s.heap.update D (Obj.mapSeq λ_=>(#[]:Cm))).get? D=some (seqObj "list" #[] e1):=⟨_,get?_update_seq eD λ_=>#[]⟩;have I1:Inv X pins σ H {s with heap:=s.heap.update D (Obj.mapSeq λ_=>(#[]:Cm))}:=b9 I fD (Heap.SameBut.update _ _ _);unfold ksk_tree;refine wpAny_bind (listItems_at eD rfl (wpAny_bind (listUpdate_at eD rfl (wpAny_bind (seqEpoch_at IC rfl (wpAny_bind (wpAny_newTuple ?_ (by show us.length<=_;rw[<-l1];exact cV h64))))) WY (Nat.zero_le _))));refine wpAny_bind (wpAny_newList (wpAny_holding ?_) (Nat.zero_le _));generalize s.heap.update D (Obj.mapSeq λ_=>(#[]:Cm))=h1 at IC I1 |-;dsimp only;have I2:Inv X pins σ H {s with heap:=h1.push (seqObj "tuple" us.toArray 0)}:=I1.kept (t':=s.toks) λb o q=>Heap.get?_push_of_some _ q;have K6:(h1.push (seqObj "tuple" us.toArray 0)).get? D=some (seqObj "list" #[] e1):=Heap.get?_push_of_some _ IC;show wpAny (model X.prog X.w) A (ksk_rest D (.ref f) false us.toArray e1 (.ref (h1.push (seqObj "tuple" us.toArray 0)).objs.size)) P E {s with heap:=(h1.push (seqObj "tuple" us.toArray 0)).push (seqObj "list" #[] 0)};generalize h1.push (seqObj "tuple" us.toArray 0)=h2 at I2 K6 |-;have ne:h2.objs.size≠D:=Nat.ne_of_gt (Heap.lt_size K6);have QO:cf X pins H h2.objs.size:=I2.aa4 (Nat.le_refl _) (I2.hok.fresh (Nat.le_refl _));have I3:Inv X pins σ H {s with heap:=h2.push (seqObj "list" #[] 0)}:=I2.kept (t':=s.toks) λb o q=>Heap.get?_push_of_some _ q;have WZ:(h2.push (seqObj "list" #[] 0)).get? D=some (seqObj "list" #[] e1):=Heap.get?_push_of_some _ K6;have Ut:(h2.push (seqObj "list" #[] 0)).get? h2.objs.size=some (seqObj "list" ([]:qw).toArray 0):=Heap.get?_push_size _ rfl;have W0:∀{H':Hp},H' D=none->cf X pins H' D:=λz=>nv fD z;have QP:∀{H':Hp},H' h2.objs.size=none->cf X pins H' h2.objs.size:=λz=>nv QO z;generalize h2.objs.size=kS at ne QO Ut QP |-;unfold ksk_rest;refine wpAny_bind (wpAny_rule ?_);rw[List.forIn_toArray]
 let II:Nat->Shared->Prop:=λj s'=>∃(H':Hp)(c:Nat)(kV:List V)(ks:qw),Inv X (pins++[(D,seqObj "list" #[] e1)]) σ H' s'/\s'.heap.get? kS=some (seqObj "list" ks.toArray c)/\H' kS=none/\aG kV ks/\kV.length=j/\mE sp (xs.drop j) H' λk2 H2=>jZ X xs Q (kV++k2) H2
 have I4:Inv X (pins++[(D,seqObj "list" #[] e1)]) σ H {s with heap:=h2.push (seqObj "list" #[] 0)}:=tI I3 fD WZ lx;refine wpAny_bind (wpAny_mono (ksk_fold (E:=E) (Q:=λ_ s'=>II us.length s') II us 0 {s with heap:=h2.push (seqObj "list" #[] 0)} ⟨H,0,[],[],I4,Ut,QO.1,.nil,rfl,by simpa using h⟩ (λj u s' hu hI=>?_) λs' hd=>by simpa using hd) (λ_ s' hI=>?_) λ_ _ e=>e)
 ·rw[Nat.zero_add] at hI |-;obtain⟨H',c,kV,ks,J,eS,nS,K5,hl,t⟩:=hI;have hj:j<us.length:=(List.getElem?_eq_some_iff.mp hu).1;obtain⟨x,hx⟩:∃x,xs[j]?=some x:=⟨xs[j]'(by omega),by simp[show j<xs.length by omega]⟩;obtain⟨u',Uu,W2⟩:=rx.get hx;rw[hu] at Uu
  cases Uu
  rw[w8 hx] at t;have Uv:cf X (pins++[(D,seqObj "list" #[] e1)]) H' kS:=zH (QP nS) (Ne.symm ne);have J2:=tI J Uv eS lx;refine wpAny_bind (wpAny_attempt (wpAny_mono (vT F hr (hE _) hb J2 W2 t) (λkv s2 hk=>?_) λ_ _ z=>z.elim));obtain⟨v,H2,J3,rv,t2⟩:=hk;obtain⟨Uw,Ux⟩:=yF J3;have J4:=lX J3;have W4:cf X (pins++[(D,seqObj "list" #[] e1)]) H2 kS:=nv Uv Ux
  have ea:ks.toArray.push kv=(ks++[kv]).toArray:=by simp
  obtain⟨c2,HM⟩:∃c2,(s2.heap.update kS (Obj.mapSeq (·.push kv))).get? kS=some (seqObj "list" (ks++[kv]).toArray c2):=⟨_,by rw[<-ea];exact get?_update_seq Uw (·.push kv)⟩;have lk:=K5.length;refine wpAny_bind (listUpdate_at Uw rfl ?_ (by rw[List.size_toArray];exact cV (by omega)) (Nat.le_trans (Nat.le_of_eq (Array.size_push ..)) (by rw[List.size_toArray];exact Nat.succ_le_succ (cV (by omega)))));refine wpAny_pure ⟨rfl,H2,c2,kV++[v],ks++[kv],b9 J4 W4 (Heap.SameBut.update _ _ _),HM,Ux,K5.append (.cons rv .nil),by simp[hl],?_⟩
  have e:∀k2:List V,kV++[v]++k2=kV++v::k2:=λk2=>by simp
  simp only[e];exact t2
 ·obtain⟨H',c,kV,ks,J,eS,nS,K5,hl,t⟩:=hI;rw[<-l1,List.drop_length] at t
  have w:jZ X xs Q kV H':=by
   have z:jZ X xs Q (kV++[]) H':=t;rwa[List.append_nil] at z
  obtain⟨Pd,nD⟩:=yF J;refine wpAny_bind (listItems_at eS rfl ?_);exact uy (by have:=hr.units;omega) hD (W0 nD) (QP nS) ne (lX J) Pd eS rx K5 (by omega) h64 w hP
theorem sd {l:Addr}(F:Bu X.prog X.w X.K X.mg X.base (aS X.prog X.w) k f fd ps sp)(hr:om (k+2) X.A)(hb:aA X.K fd ps [])
 (I:Inv X pins σ H s)(hl:aY X.K H l xs)(h64:xs.length<64)(h:mE sp xs H (jZ X xs Q)):wpAny (model X.prog X.w) X.A (call (.builtin "sorted") [.ref l] [(Str.ofString "key",.ref f)]) (EP X pins σ Q) E s:=by
 obtain⟨us,rx,pl,_⟩:=I.list hl;have l1:=rx.length;refine call_function_entry_kw kind_sorted plain_sorted entry_sorted (ksk_s1 _ _) ?_;unfold Builtin.«sorted»;refine wpAny_bind (m:=checkCount "sorted" 1 1 _) (wpAny_pure (wpAny_bind (collect_list pl.isList (wpAny_bind (wpAny_newList ?_ (cV (by omega)))) (cV (by omega)))))
 have sz:((s.heap.push (seqObj "list" #[] 0)).update s.heap.objs.size (Obj.mapSeq (·++us.toArray))).objs.size=s.heap.objs.size+1:=by rw[Heap.size_update];exact size_push' _ _
 have Jv:(((s.heap.push (seqObj "list" #[] 0)).update s.heap.objs.size (Obj.mapSeq (·++us.toArray))).push (seqObj "list" us.toArray 0)).get? (s.heap.objs.size+1)=some (seqObj "list" us.toArray 0):=by
  rw[<-sz];exact Heap.get?_push_size _ rfl
 have old:∀b o,s.heap.get? b=some o->(((s.heap.push (seqObj "list" #[] 0)).update s.heap.objs.size (Obj.mapSeq (·++us.toArray))).push (seqObj "list" us.toArray 0)).get? b=some o:=λb o q=>by
  have lt:b<s.heap.objs.size:=Heap.lt_size q;refine Heap.get?_push_of_some _ ?_;rw[Heap.get?_update_ne _ _ _ _ (Nat.ne_of_lt lt)];exact Heap.get?_push_of_some _ q
 show wpAny _ _ _ _ _ {s with heap:=((s.heap.push (seqObj "list" #[] 0)).update s.heap.objs.size (Obj.mapSeq (·++us.toArray))).push (seqObj "list" us.toArray 0)};rw[sz];generalize ((s.heap.push (seqObj "list" #[] 0)).update s.heap.objs.size (Obj.mapSeq (·++us.toArray))).push (seqObj "list" us.toArray 0)=h5 at Jv old |-;have I5:Inv X pins σ H {s with heap:=h5}:=I.kept (t':=s.toks) old;have fD:cf X pins H (s.heap.objs.size+1):=I.aa4 (Nat.le_succ _) (I.hok.fresh (Nat.le_succ _));refine wpAny_bind (wpAny_holding (wpAny_call_entry_kw slot_list_sort ⟨_,Jv,rfl⟩ entry_list_sort ?body (ksk_l1 _ _)))
 case body =>
  show wpAny (model X.prog X.w) X.A.in1.in1 (Builtin.«list.sort» ⟨[.ref (s.heap.objs.size+1)],[(Str.ofString "key",.ref f)]⟩) _ _ _;rw[ksk_t1];exact lO (A:=X.A.in1.in1) F hr.in1.in1 (λpins' H' s' J=>J.abJ.in1.in1) hb (Nat.le_trans I.sz (Nat.le_succ _)) fD I5 Jv rx h64 h λs' q=>⟨_,rfl,wpAny_pure ⟨_,rfl,q⟩⟩
end
noncomputable def Ba (X:Cx)(sp:Sp)(ta:TE):TE:=λσ H Q=>eC ta E1 σ H λvs H1=>∃l xs,vs=[.ref l]/\aY X.K H1 l xs/\xs.length<64/\mE sp xs H1 (jZ X xs Q)
section
variable {X:Cx}{k:Nat}{f:Addr}{fd:ET}{ps:wk}{sp:Sp}{e:Expr}{ta:TE}{x:Str}{p p2 QQ pos:Pos}
theorem x5 (F:Bu X.prog X.w X.K X.mg X.base (aS X.prog X.w) k f fd ps sp)(hr:om (k+2) X.A)(hb:aA X.K fd ps [])(hg:Gl X "sorted")(hm:X.mg "sorted"=none)(W6:Gl X x)(W7:X.mg x=some (.ref f))(ha:PE X e ta)(hs:gO e=false:=by rfl)(hd:(x==("__debug__":Str))=false:=by decide):
 PE X (.Call (.Name "sorted" p) [e] [⟨some "key",.Name x p2,QQ⟩] pos) (Ba X sp ta):=by
 intro pins s σ H Q I h;refine wpAny_Call_Name_kw (gP I hg hm (by rfl) ?_ (by decide) (by decide));refine callWith_builtin_kwB (by rw[cx hs];rfl) rfl (evalArgs_kw2 rfl ?_ (cx hs));refine bp (aq ha ah hs pos pins s σ H _ I h) λus s1 z'=>?_;obtain⟨vs,H1,I1,r1,⟨l,xs,hv,hl,h64,ht⟩⟩:=z';subst hv
 cases r1 with
 |cons ra rb =>
  cases rb
  cases ra
  refine kwAll_cons (dz I1 W6 W7 (kwAll_nil ?_) hd);exact sd F hr hb I1 hl h64 ht
end
end Srt
namespace K24
open PySem L2 PySem.W Nm Srt
variable {n:Nat}{p:Int}
theorem v9 {t b:Int}(hp:FP p)(h:B n t)(hb:b≠0)(hn:7<=n):B n (dG p t b):=by
 unfold dG
 by_cases z:p=0
 ·rw[if_pos z];exact h.le (sy hb)
 ·rw[if_neg z];obtain⟨_,p2,O8⟩:=hp.two z;have h0:=Int.emod_nonneg t (b:=p) (by omega);have h1:=Int.emod_lt_of_pos t (b:=p) (by omega)
  have:B 7 (t%p):=by
   show(t%p).natAbs<2^7;omega
  exact this.mono hn
theorem xB {n:Nat}{t b:Int}(h:B n b)(hb:b≠0)(hn:1<=n):B n (eE p t b):=by
 unfold eE
 by_cases z:p=0
 ·rw[if_pos z];exact h.le (tW hb)
 ·rw[if_neg z];exact(show B 1 (1:Int) from(by show(1:Int).natAbs<2^1;decide)).mono hn
noncomputable abbrev Tm:=List Int×Int×Int
noncomputable def dZ (p:Int)(a b:Int×Int):Int×Int:=(dG p (i5 a.1 a.2 b.1 b.2) (a.2*b.2),eE p (i5 a.1 a.2 b.1 b.2) (a.2*b.2))
noncomputable def Gn (p:Int)(n:Nat)(a:Int×Int):Prop:=Num p a.1 a.2/\B n a.1/\B n a.2
theorem Gn.ne {a:Int×Int}(h:Gn p n a):a.2≠0:=by have:=h.1.pos;omega
theorem m8 {m:Nat}{a b:Int×Int}(hp:FP p)(ha:Gn p n a)(hb:Gn p m b)(h7:7<=n+m+1):Gn p (n+m+1) (dZ p a b):=by
 have nz:a.2*b.2≠0:=Int.mul_ne_zero ha.ne hb.ne;refine⟨Num.set hp.nn nz,v9 hp ?_ nz h7,(xB (n:=n+m) (ha.2.2.mul hb.2.2) nz (by omega)).mono (by omega)⟩;have h1:B (n+m) (a.1*b.2):=ha.2.1.mul hb.2.2;have h2:B (n+m) (b.1*a.2):=(hb.2.1.mul ha.2.2).mono (by omega);exact h1.add h2
theorem vo {b:Int×Int}(hp:FP p)(hb:Gn p n b):dZ p (0,1) b=b:=by
 obtain⟨h1,h2⟩:=hb.1.self hp.nn;unfold dZ i5
 have e1:(0:Int)*b.2+b.1*1=b.1:=by omega
 have e2:(1:Int)*b.2=b.2:=by omega
 rw[e1,e2,h1,h2]
noncomputable def iW (p:Int)(d:List Tm)(t:Tm):List Tm:=if d.any (λe=>decide (e.1=t.1))=true then d.map (λe=>if e.1=t.1 then(e.1,dZ p e.2 t.2) else e) else d++[t]
noncomputable def aO (p:Int)(ts:List Tm):List Tm:=ts.foldl (iW p) []
noncomputable def mr (p:Int)(n:Nat)(d:List Tm):Prop:=∀e∈d,Gn p n e.2
variable {d:List Tm}
theorem vJ {m:Nat}{t:Tm}(hp:FP p)(hd:mr p n d)(ht:Gn p m t.2)(h7:7<=n+m+1):mr p (n+m+1) (iW p d t):=by
 have up:∀e∈d,Gn p (n+m+1) e.2:=λe he=>⟨(hd e he).1,(hd e he).2.1.mono (by omega),(hd e he).2.2.mono (by omega)⟩;unfold iW
 split
 ·intro e he;obtain⟨e0,h0,rfl⟩:=List.mem_map.mp he
  by_cases q:e0.1=t.1
  ·rw[if_pos q];exact m8 hp (hd e0 h0) ht h7
  ·rw[if_neg q];exact up e0 h0
 ·intro e he
  rcases List.mem_append.mp he with he|he
  ·exact up e he
  ·have:e=t:=by simpa using he
   subst this;exact⟨ht.1,ht.2.1.mono (by omega),ht.2.2.mono (by omega)⟩
theorem uV {t:Tm}(hd:(d.map (·.1)).Nodup):((iW p d t).map (·.1)).Nodup:=by
 unfold iW
 split
 ·rw[List.map_map]
  have:((λe:Tm=>e.1) ∘ λe=>if e.1=t.1 then(e.1,dZ p e.2 t.2) else e)=λe=>e.1:=by
   funext e
   show(if e.1=t.1 then(e.1,dZ p e.2 t.2) else e).1=e.1
   split <;> rfl
  rw[this];exact hd
 ·rename_i q
  rw[List.map_append];refine List.nodup_append.mpr ⟨hd,by simp,λa ha b hb z=>?_⟩
  have:b=t.1:=by simpa using hb
  subst this;subst z;obtain⟨e,he,e1⟩:=List.mem_map.mp ha;exact q (List.any_eq_true.mpr ⟨e,he,by simpa using e1⟩)
theorem xk {t:Tm}:(iW p d t).length<=d.length+1:=by
 unfold iW
 split <;> simp
noncomputable def keyOf (t:Tm):Ky:=(t.1.length,t.1)
noncomputable def cO (d:List Tm):List Tm:=(cA ((d.filter λe=>e.2.1 != 0).map λe=>(keyOf e,e))).map (·.2)
theorem eJ (p:Int)(ts:List Tm)(t:Tm):aO p (ts++[t])=iW p (aO p ts) t:=by
 unfold aO;rw[List.foldl_append];rfl
theorem dA {m:Nat}(hp:FP p):∀(n:Nat)(ts:List Tm),ts.length=n->(∀t∈ts,Gn p m t.2)->mr p ((m+1)*n+7) (aO p ts)/\((aO p ts).map (·.1)).Nodup/\(aO p ts).length<=n
 |0,ts,hn,_=>by
  have:ts=[]:=List.length_eq_zero_iff.mp hn;subst this;refine And.intro (λe he=>?_) (And.intro List.nodup_nil (Nat.le_refl 0));exact absurd (show e∈([]:List Tm) from he) (by simp)
 |n+1,ts,hn,h=>by
  obtain⟨Ga,t,rfl⟩:∃Ga t,ts=Ga++[t]:=by
   have FX:ts≠[]:=by intro z;rw[z] at hn;cases hn
   exact⟨ts.dropLast,ts.getLast FX,(List.dropLast_concat_getLast FX).symm⟩
  have hl:Ga.length=n:=by simpa using hn
  obtain⟨g1,g2,g3⟩:=dA hp n Ga hl λt ht=>h t (List.mem_append_left _ ht);rw[eJ];have gt:=h t (List.mem_append_right _ (by simp));have e2:(m+1)*(n+1)=(m+1)*n+(m+1):=Nat.mul_succ _ _;refine⟨λe he=>?_,uV g2,Nat.le_trans xk (by omega)⟩;have:=vJ hp g1 gt (by omega) e he;exact⟨this.1,this.2.1.mono (by omega),this.2.2.mono (by omega)⟩
end K24
namespace Nm
theorem my {t b:Int}(h:b≠0):dG 0 t b*b=t*eE 0 t b:=by
 have e1:=pJ (t:=t) h;have e2:=jP (t:=t) h;show de t b*b=t*cm t b;generalize de t b=x at *;generalize cm t b=y at *;generalize dv t b=d at *;subst e1;subst e2;grind
end Nm
namespace K24
open PySem L2 PySem.W Nm Srt
section
variable {p:Int}{R:Type} [Lean.Grind.CommRing R]{v:Int×Int->R}
theorem iJ (d:List Tm):(cO d).Perm (d.filter λe=>e.2.1 != 0):=by
 unfold cO;have h:=(cy ((d.filter λe=>e.2.1 != 0).map λe=>(keyOf e,e))).map (·.2);rw[List.map_map] at h;have e:((λx:Ky×Tm=>x.2) ∘ λe=>(keyOf e,e))=id:=rfl;rw[e,List.map_id] at h;exact h
end
end K24
namespace L2
open PySem PySem.Spec PyProof.Rows PySem.W
end L2
namespace St
open PySem
open PyProof.Rows
end St
namespace L2
open PySem PySem.Spec PyProof.Rows PySem.W
end L2
namespace K24
open PySem L2 PySem.W Nm Srt
noncomputable def gM (p:Int)(a b:Int×Int):Int×Int:=(dG p (jB a.1 a.2 b.1 b.2) (a.2*b.2),eE p (jB a.1 a.2 b.1 b.2) (a.2*b.2))
section
variable {p:Int}{R:Type} [Lean.Grind.CommRing R]{v:Int×Int->R}
theorem jO {a b:Int×Int}(hp:0<=p)(ha:Num p a.1 a.2)(hb:Num p b.1 b.2):Num p (gM p a b).1 (gM p a b).2 :=
 Num.set hp (Int.mul_ne_zero (by have:=ha.pos;omega) (by have:=hb.pos;omega))
end
noncomputable abbrev dR (ks:List Int):List Key:=ks.map Sum.inl
theorem fQ (ks:List Int):(dR ks).map kV=ks.map V.int:=by unfold dR;rw[List.map_map];rfl
theorem fh {a b:List Int}(h:dR a=dR b):a=b:=by
 have e:(dR a).map kV=(dR b).map kV:=by rw[h]
 rw[fQ,fQ] at e
 have inj:∀{x y:List Int},x.map V.int=y.map V.int->x=y:=by
  intro x
  induction x with
  |nil=>intro y h;cases y with
   |nil=>rfl
   |cons c y=>simp at h
  |cons b x ih=>intro y h;cases y with
   |nil=>simp at h
   |cons c y =>
    rw[List.map_cons,List.map_cons] at h
    injection h with h1 h2
    injection h1 with h1
    rw[h1,ih h2]
 exact inj e
noncomputable def Dz (H:Hp)(y:V)(t:Tm):Prop:=∃a pr nu,y=.ref a/\H a=some (.tup [.ref pr,.ref nu])/\H pr=some (.tup (t.1.map V.int))/\H nu=some (bE t.2.1 t.2.2)
noncomputable abbrev bR (H:Hp):List V->List Tm->Prop:=Paired (Dz H)
noncomputable abbrev DR (H:Hp):List (List Key×V)->List Tm->Prop:=Paired λkv e=>kv.1=dR e.1/\∃a,kv.2=.ref a/\H a=some (bE e.2.1 e.2.2)
noncomputable def az (H H':Hp):Prop:=∀b xs,H b=some (.tup xs)->H' b=some (.tup xs)
variable {H H':Hp}
theorem az.of (s:ay H H'):az H H':=λb xs e=>s b _ e
theorem az.trans {H1 H2:Hp}(a:az H H1)(b:az H1 H2):az H H2:=λc xs e=>b c xs (a c xs e)
theorem az.upd {d:Addr}{o:HO}(h:∀xs,H d≠some (.tup xs)):az H (upd H d o):=λb xs e=>by
 have:b≠d:=λz=>h xs (z▸e);rw[ai this];exact e
variable {y:V}
theorem Dz.keep {t:Tm}(h:Dz H y t)(k:az H H'):Dz H' y t:=let⟨a,pr,nu,e,h1,h2,h3⟩:=h;⟨a,pr,nu,e,k _ _ h1,k _ _ h2,k _ _ h3⟩
variable {ts:List Tm}
theorem bR.keep {ys:List V}(h:bR H ys ts)(k:az H H'):bR H' ys ts:=Paired.aaW h λ_ _ z=>z.keep k
variable {FF:List (List Key×V)}{d:List Tm}
theorem DR.keep (h:DR H FF d)(k:az H H'):DR H' FF d:=Paired.aaW h λ_ _ z=>⟨z.1,let⟨a,e,h⟩:=z.2;⟨a,e,k _ _ h⟩⟩
theorem qu (k:List Int):∀{FF:List (List Key×V)}{d:List Tm},DR H FF d->d.any (λe=>decide (e.1=k))=false->fG FF (dR k)=none
 |_,_,.nil,_=>rfl
 |_,_,.cons (a:=kv) (b:=e) h t,q=>by
  rw[List.any_cons,Bool.or_eq_false_iff] at q
  have ne:¬kv.1=dR k:=λz=>by
   have:e.1=k:=fh (h.1.symm.trans z);simp[this] at q
  rw[eB ne];exact qu k t q.2
theorem iH (k:List Int):∀{FF:List (List Key×V)}{d:List Tm},DR H FF d->d.any (λe=>decide (e.1=k))=true->∃e∈d,e.1=k/\∃a,fG FF (dR k)=some (.ref a)/\H a=some (bE e.2.1 e.2.2)
 |_,_,.nil,q=>by simp at q
 |_,_,.cons (a:=kv) (b:=e) h t,q=>by
  by_cases z:e.1=k
  ·obtain⟨a,e1,ha⟩:=h.2;refine⟨e,List.mem_cons_self,z,a,?_,ha⟩;rw[fY (by rw[h.1,z]),e1]
  ·have ne:¬kv.1=dR k:=λw=>z (fh (h.1.symm.trans w));rw[List.any_cons,decide_eq_false z,Bool.false_or] at q;obtain⟨e',m,z',a,h1,h2⟩:=iH k t q;exact⟨e',List.mem_cons_of_mem _ m,z',a,by rw[eB ne];exact h1,h2⟩
theorem wq (k:List Int)(h:DR H FF d):(FF.any λkv=>decide (kv.1=dR k))=d.any λe=>decide (e.1=k):=by
 rw[ko]
 cases q:d.any λe=>decide (e.1=k) with
 |false=>rw[qu k h q];rfl
 |true =>
  obtain⟨_,_,_,a,e,_⟩:=iH k h q;rw[e];rfl
variable {p:Int}
theorem yq {t:Tm}{a:Addr}(h:DR H FF d)(nd:(d.map (·.1)).Nodup)
 (GJ:d.any (λe=>decide (e.1=t.1))=false->H a=some (bE t.2.1 t.2.2))(HD:∀e∈d,e.1=t.1->H a=some (bE (dZ p e.2 t.2).1 (dZ p e.2 t.2).2)):DR H (cg FF (dR t.1) (.ref a)) (iW p d t):=by
 unfold cg iW;rw[wq t.1 h]
 by_cases q:d.any (λe=>decide (e.1=t.1))=true
 ·rw[if_pos q,if_pos q]
  have go:∀{FF:List (List Key×V)}{d:List Tm},DR H FF d->(∀e∈d,e.1=t.1->H a=some (bE (dZ p e.2 t.2).1 (dZ p e.2 t.2).2)) →
   DR H (FF.map λkv=>if kv.1=dR t.1 then(kv.1,V.ref a) else kv) (d.map λe=>if e.1=t.1 then(e.1,dZ p e.2 t.2) else e):=by
   intro FF d h
   induction h with
   |nil=>intro _;exact .nil
   |@cons kv e ks es h0 ht ih =>
    intro hy;rw[List.map_cons,List.map_cons];refine .cons ?_ (ih λe' m=>hy e' (List.mem_cons_of_mem _ m))
    by_cases z:e.1=t.1
    ·rw[if_pos z,if_pos (by rw[h0.1,z])];exact⟨h0.1,a,rfl,hy e List.mem_cons_self z⟩
    ·rw[if_neg z,if_neg (λw=>z (fh (h0.1.symm.trans w)))];exact h0
  exact go h HD
 ·have q':d.any (λe=>decide (e.1=t.1))=false:=Bool.eq_false_iff.mpr q;rw[if_neg q,if_neg q];exact Paired.snoc h ⟨rfl,a,rfl,GJ q'⟩
noncomputable abbrev xK:Stmt:=(aV 41)
structure BG (p:Int)(ts:List Tm):Prop where
 len:ts.length<4000
 num:∀t∈ts,Gn p 4000 t.2
 steps:∀i,i<=ts.length->mr p 4000 (aO p (ts.take i))
 few:(aO p ts).length<64
theorem BG.of {m:Nat}(hp:FP p)(h64:ts.length<64)(hG:∀t∈ts,Gn p m t.2)(hm:(m+1)*ts.length+7<=4000)(Uy:m<=4000):BG p ts:=by
 refine⟨by omega,λt ht=>⟨(hG t ht).1,(hG t ht).2.1.mono Uy,(hG t ht).2.2.mono Uy⟩,λi hi=>?_,?_⟩
 ·obtain⟨g1,g2,g3⟩:=dA (m:=m) hp i (ts.take i) (by simp;omega) λt ht=>hG t (List.mem_of_mem_take ht);intro e he;have b:=g1 e he;have le:(m+1)*i+7<=4000:=Nat.le_trans (Nat.add_le_add_right (Nat.mul_le_mul_left _ hi) _) hm;exact⟨b.1,b.2.1.mono le,b.2.2.mono le⟩
 ·exact Nat.lt_of_le_of_lt (dA (m:=m) hp ts.length ts rfl hG).2.2 h64
noncomputable def qI (C:Addr):Sp:=λvs H Q _=>∃(s dx l:Addr)(p:Int)(ys:List V)(ts:List Tm),vs=[.ref s,.ref l]/\H s=some (.ins C dx (gZ p))/\FP p/\H l=some (.lst ys)/\bR H ys ts/\BG p ts /\
 ∀H' D zs,ay H H'->H D=none->H' D=some (.lst zs)->bR H' zs (cO (aO p ts))->Q (.ref D) H'
theorem none_of {a:Addr}(s:ay H H')(h:H' a=none):H a=none:=by
 cases e:H a with
 |none=>rfl
 |some o=>rw[s _ _ e] at h;cases h
theorem iV:uZ ["field","terms","totals","product","number","kept"] qD (ao xK):=d8 (by decide +kernel)
theorem mi {α β:Type}{R:α->β->Prop}{k:Ky}{x:α}{y:β}(h:R x y):∀{l:List (Ky×α)}{m:List (Ky×β)},Paired (λa b=>a.1=b.1/\R a.2 b.2) l m->Paired (λa b=>a.1=b.1/\R a.2 b.2) (lJ k x l) (lJ k y m)
 |_,_,.nil=>.cons ⟨rfl,h⟩ .nil
 |_,_,.cons (a:=(j,u)) (b:=(j',v)) (l₁:=r) (l₂:=r') h0 t=>by
  obtain⟨e,h1⟩:=h0;have e:j=j':=e;subst e;show Paired _ (if lz k j=true then(k,x):: (j,u):: r else(j,u):: lJ k x r) (if lz k j=true then(k,y):: (j,v):: r' else(j,v):: lJ k y r')
  by_cases z:lz k j=true
  ·rw[if_pos z,if_pos z];exact .cons ⟨rfl,h⟩ (.cons ⟨rfl,h1⟩ t)
  ·rw[if_neg z,if_neg z];exact .cons ⟨rfl,h1⟩ (mi h t)
theorem gV {α β:Type}{R:α->β->Prop}:∀{l:List (Ky×α)}{m:List (Ky×β)},Paired (λa b=>a.1=b.1/\R a.2 b.2) l m->Paired (λa b=>a.1=b.1/\R a.2 b.2) (cA l) (cA m)
 |_,_,.nil=>.nil
 |_,_,.cons (a:=(j,u)) (b:=(j',v)) (l₁:=r) (l₂:=r') h0 t=>by
  obtain⟨e,h1⟩:=h0;have e:j=j':=e;subst e;exact mi h1 (gV t)
theorem jz {α β:Type}{R:α->β->Prop}:∀{l:List (Ky×α)}{m:List (Ky×β)},Paired (λa b=>a.1=b.1/\R a.2 b.2) l m->Paired R (l.map (·.2)) (m.map (·.2))
 |_,_,.nil=>.nil
 |_,_,.cons h t=>.cons h.2 (jz t)
theorem jV {R:V->Tm->Prop}:∀{xs:List V}{es:List Tm},Paired R xs es->Paired (λa b=>a.1=b.1/\R a.2 b.2) ((es.map keyOf).zip xs) (es.map λe=>(keyOf e,e))
 |_,_,.nil=>.nil
 |_,_,.cons h t=>.cons ⟨rfl,h⟩ (jV t)
theorem mM:∀{xs:List V}{es:List Tm}{H:Hp}{R:List V->Hp->Prop},bR H xs es →
 (∀ks H2,ay H H2->Paired (λx e=>∃a b,x=.ref a/\H2 a=some (.tup [.int e.1.length,.ref b])/\H2 b=some (.tup (e.1.map V.int))) ks es->R ks H2)->mE C2 xs H R
 |_,_,H,R,.nil,h=>h [] H (ay.refl _) .nil
 |_,_,H,R,.cons (b:=e) h0 t,h=>by
  obtain⟨a,pr,nu,rfl,ha,Gb,He⟩:=h0;refine⟨a,pr,.ref nu,_,rfl,ha,Gb,λtt W8=>?_⟩;rw[List.length_map];have sU:ay H (upd H tt (.tup [.int e.1.length,.ref pr])):=au W8;refine mM (bR.keep t (az.of sU)) λks H2 s2 hk=>h _ H2 (λb u z=>s2 _ _ (sU _ _ z)) (.cons ⟨tt,pr,rfl,s2 _ _ ae,s2 _ _ (sU _ _ Gb)⟩ hk)
theorem pU {K:Frag}:∀{ks:List V}{es:List Tm},Paired (λx e=>∃a b,x=.ref a/\H a=some (.tup [.int e.1.length,.ref b])/\H b=some (.tup (e.1.map V.int))) ks es->cS K H ks (es.map keyOf)
 |_,_,.nil=>True.intro
 |_,_,.cons h t=>by
  obtain⟨a,b,rfl,h1,h2⟩:=h;exact⟨⟨a,b,[],rfl,bf.of h1,bf.of h2⟩,pU t⟩
theorem sI (h:(d.map (·.1)).Nodup)(f:Tm->Bool):((d.filter f).map keyOf).Nodup:=by
 have h1:((d.filter f).map (·.1)).Nodup:=h.sublist (List.filter_sublist.map _)
 have e:(d.filter f).map keyOf=((d.filter f).map (·.1)).map λk=>((k.length:Int),k):=by rw[List.map_map];rfl
 rw[e];unfold List.Nodup at h1 |-;rw[List.pairwise_map];exact h1.imp λh z=>h (Prod.mk.inj z).2
theorem eZ (h:(d.map (·.1)).Nodup):∀{e e':Tm},e∈d->e'∈d->e.1=e'.1->e=e':=by
 induction d with
 |nil=>intro e e' h1;exact nomatch h1
 |cons a d ih =>
  rw[List.map_cons,List.nodup_cons] at h;intro e e' h1 h2 z
  rcases List.mem_cons.mp h1 with h3|h3
  ·rcases List.mem_cons.mp h2 with h4|h4
   ·rw[h3,h4]
   ·exact absurd (by rw[<-h3,z];exact List.mem_map_of_mem (f:=(·.1)) h4) h.1
  ·rcases List.mem_cons.mp h2 with h4|h4
   ·exact absurd (by rw[<-h4,<-z];exact List.mem_map_of_mem (f:=(·.1)) h3) h.1
   ·exact ih h.2 h3 h4 z
variable {P:vQ}{w:World}{K:PySem.W.Frag}{mg:FA}{base:Heap}
variable {f:Addr}{fd:ET}
theorem Ar {fp fo C:Addr}{HP Uz:ET}(F:uB K "gathered" "gathered" xK f fd)(c:B5 K mg C)(F7:mg "sorted"=none)
 (W9:Bu P w K mg base (aS P w) 4 fp HP yk (AB C i5))(Xa:L2.aA K HP yk [])(Xb:L2.Meth K C "plus" fp)
 (Xc:Bu P w K mg base (aS P w) 1 fo Uz ["term"] C2)(Xd:L2.aA K Uz ["term"] [])(Xe:mg "place_of_term"=some (.ref fo)):Bu P w K mg base (aS P w) 5 f fd qD (qI C):=by
 refine F.okN iV (λvs H Q E h=>?_) (λFJ A outer s H vs Q E hr h=>?_)
 ·obtain⟨s,dx,l,p,ys,ts,rfl,_⟩:=h;rfl
 ·obtain⟨s0,dx,l,p,ys,ts,rfl,hs,hp,hl,MG,G,q⟩:=h;have h64:=G.len;have hG:=G.num;have J0:om 4 _:=hr.mono (by decide);have QR:om 3 _:=hr.mono (by decide);have hu:=(hr.units:_+64<cLine)
  replace hu:=Nat.lt_of_le_of_lt (Nat.add_le_add_left (by decide:1<=64) _) hu
  refine⟨_,(aj (@aK _ _ 2 _ _ _ _ iV.nd rfl (Or.inl rfl) jT rfl (Or.inl rfl))
   (aj (c9 PassesOwn.never rfl (bY (pv 1)) (cK rfl (aI (aE (i:=3) iV.nd rfl (Or.inl rfl)) (aI (aE (i:=4) iV.nd rfl (Or.inl rfl)) bX)))
   (aj (bg (oA (ach hu (pv 3) (pv 2))) (ar (@aK _ _ 4 _ _ _ _ iV.nd rfl (Or.inl rfl) (il (pv 0) c.cl Xb W9 J0 Xa .nil ag (@aq _ _ _ _ _ (gq hu (pv 2) (pv 3) (λ_ _=>rfl)) (@aq _ _ _ _ _ (pv 4) ah rfl) rfl)) rfl (Or.inl rfl))) aJ)
   (ar (ib hu (pv 2) (pv 3) (pv 4) (by rfl)))))
   (aj (oo (i:=5) (g:=ji K 2 (ck (bz 0) (ck (bz 1) Ek))) (N:=["product","number"]) (nl:=2) (js:=[]) (osc:=ao xK) ⟨rfl,rfl,by decide +kernel,by decide +kernel,by decide +kernel,rfl,.nil,by decide +kernel⟩ rfl iV.nd rfl (Or.inl rfl)
    (ki (pv 2))
    (λC fp s H=>(cK (X:=bD _ ["product","number"] _ C fp s H) rfl (aI (aE (X:=bD _ ["product","number"] _ C fp s H) (i:=0) (by show(["product","number"]:wk).Nodup;decide +kernel) rfl (Or.inl rfl) (Or.inr rfl)) (aI (aE (X:=bD _ ["product","number"] _ C fp s H) (i:=1) (by show(["product","number"]:wk).Nodup;decide +kernel) rfl (Or.inl rfl) (Or.inr rfl)) bX))))
    (λC fp s H=>(fj (@aN _ _ _ _ _ _ _ _ hV (@aX _ _ _ _ _ _ _ (show Ds _ (BB K) from bw) (pv 1) ak (λ_ _=>rfl)) ak (aM _))))
    (λC fp s H=>(@bx _ _ _ _ _ (@aq _ _ _ _ _ (pv 0) (@aq _ _ _ _ _ (pv 1) ah rfl) rfl))) (by rfl))
   (ar (aB (x5 Xc QR Xd (by rfl) F7 (by rfl) Xe (pv 5))))))),?_⟩
  have hlen:=MG.length
  have gg:∀i,i<=ts.length->mr p 4000 (aO p (ts.take i))/\((aO p (ts.take i)).map (·.1)).Nodup/\(aO p (ts.take i)).length<=i:=λi hi=>by
   obtain⟨_,g2,g3⟩:=dA (m:=4000) hp i (ts.take i) (by simp;omega) λt ht=>hG t (List.mem_of_mem_take ht);exact⟨G.steps i hi,g2,g3⟩
  refine λdd Hk=>?_;have s1:ay H (upd H dd (.dT [])):=au Hk;refine⟨_,rfl,l,rfl,⟨ys,aY.of (s1 _ _ hl)⟩,?_⟩
  refine⟨λi m σ' H'=>m=ts.length-i/\i<=ts.length/\ay H H'/\(∃FF,H' dd=some (.dT FF)/\DR H' FF (aO p (ts.take i)))/\∃o3 o4,σ'=[some (.ref s0),some (.ref l),some (.ref dd),o3,o4,none],
   ⟨ts.length,by simp,Nat.zero_le _,s1,⟨[],ae,.nil⟩,none,none,rfl⟩,?_⟩
  rintro i m' σ' H' ⟨rfl,hi,sH,⟨FF,hd,dr⟩,o3,o4,rfl⟩;have Hy:=sH _ _ hl;have JZ:=sH _ _ hs;obtain⟨gd,Jh,gl⟩:=gg i hi
  by_cases FO:i<ts.length
  ·have K7:i<ys.length:=by omega
   refine .inr ⟨⟨ys,ys[i],aY.of Hy,by simp[K7]⟩,λσ' H'=>i+1<=ts.length/\ay H H'/\(∃FF,H' dd=some (.dT FF)/\DR H' FF (aO p (ts.take (i+1))))/\∃o3 o4,σ'=[some (.ref s0),some (.ref l),some (.ref dd),o3,o4,none],?_,λy H2 hy=>?_⟩
   ·rintro σ' H' ⟨h1,h2,h3,h4⟩;exact⟨ts.length-(i+1),by omega,rfl,h1,h2,h3,h4⟩
   ·obtain⟨rfl,hy⟩:=hy;obtain⟨t,et,tr⟩:=aL MG (hy ys (aY.of Hy));obtain⟨a,pr,nu,rfl,ha,Gb,He⟩:=tr.keep (az.of sH);have gt:=hG t (List.mem_of_getElem? et)
    have Gk:ts.take (i+1)=ts.take i++[t]:=by rw[List.take_add_one,et];rfl
    have Hm:∀H3:Hp,az H2 H3->H3 pr=some (.tup ((dR t.1).map kV)):=λH3 k=>by rw[fQ];exact k _ _ Gb
    have fin:∀(H3:Hp)(an:Addr),ay H H3->az H2 H3->H3 dd=some (.dT FF)->((aO p (ts.take i)).any (λe=>decide (e.1=t.1))=false->H3 an=some (bE t.2.1 t.2.2)) →
     (∀e∈aO p (ts.take i),e.1=t.1->H3 an=some (bE (dZ p e.2 t.2).1 (dZ p e.2 t.2).2)) →
     ay H (upd H3 dd (.dT (cg FF (dR t.1) (.ref an))))/\∃ID,(upd H3 dd (.dT (cg FF (dR t.1) (.ref an)))) dd=some (.dT ID)/\DR (upd H3 dd (.dT (cg FF (dR t.1) (.ref an)))) ID (aO p (ts.take (i+1))):=by
     intro H3 an s3 k3 h3 GJ HD;refine⟨λb u e=>by rw[ai (av e Hk)];exact s3 b u e,_,ae,?_⟩;rw[Gk,eJ];exact(yq (dr.keep k3) Jh GJ HD).keep (az.upd λxs z=>by rw[h3] at z;cases z)
    have IE:FF.length<sizeLine:=by
     rw[dr.length];exact Nat.lt_of_le_of_lt gl (Nat.lt_trans (Nat.lt_of_le_of_lt hi h64) (by decide))
    refine⟨a,_,rfl,bf.of ha,rfl,_,_,rfl,_,_,rfl,rfl,?_⟩;refine⟨_,rfl,_,rfl,dd,_,rfl,fM.t hd (Hm _ λ_ _ e=>e),_,rfl,?_⟩
    cases hq:(aO p (ts.take i)).any (λe=>decide (e.1=t.1)) with
    |false =>
     rw[qu t.1 dr hq];refine b8 ?_;refine⟨_,rfl,_,rfl,_,rfl,dd,_,rfl,kg.t hd (Hm _ λ_ _ e=>e) IE,?_⟩
     obtain⟨f1,f2⟩:=fin H2 nu sH (λ_ _ e=>e) hd (λ_=>He) λe he z=>by
      have:(aO p (ts.take i)).any (λe=>decide (e.1=t.1))=true:=List.any_eq_true.mpr ⟨e,he,by simpa using z⟩;rw[hq] at this;cases this
     exact⟨FO,f1,f2,_,_,rfl⟩
    |true =>
     obtain⟨e,he,ek,a0,hv,MH⟩:=iH t.1 dr hq;rw[hv];refine cb ?_;have ge:=gd e he
     refine⟨_,rfl,s0,dx,_,rfl,JZ,rfl,_,rfl,_,rfl,dd,_,rfl,(by rw[<-hv];exact fM.t hd (Hm _ λ_ _ e=>e)),_,rfl,s0,dx,a0,nu,p,e.2.1,e.2.2,t.2.1,t.2.2,rfl,JZ,hp,MH,He,
      ge.2.1,ge.2.2,gt.2.1,gt.2.2,ge.ne,gt.ne,λa1 Ij=>?_⟩
     have sU:ay H2 (upd H2 a1 (bE (dZ p e.2 t.2).1 (dZ p e.2 t.2).2)):=au Ij;refine⟨_,rfl,_,rfl,_,rfl,dd,_,rfl,kg.t (sU _ _ hd) (Hm _ (az.of sU)) IE,?_⟩
     obtain⟨f1,f2⟩:=fin _ a1 (λb u z=>sU _ _ (sH _ _ z)) (az.of sU) (sU _ _ hd) (λz=>by rw[hq] at z;cases z) λe' K8 z=>by
      have:e'=e:=eZ Jh K8 he (z.trans ek.symm);subst this;exact ae
     exact⟨FO,f1,f2,_,_,rfl⟩
  ·have ei:i=ts.length:=by omega
   subst ei;refine .inl ⟨⟨ys,aY.of Hy,by omega⟩,?_⟩;rw[List.take_length] at dr gd Jh gl;refine⟨_,rfl,dd,FF,rfl,.inr ⟨hd,λo=>?_⟩⟩
   have sF:ay H (upd H' dd (k9 o FF)):=λb u e=>by rw[ai (av e Hk)];exact sH b u e
   have QS:DR (upd H' dd (k9 o FF)) FF (aO p ts):=dr.keep (az.upd λxs z=>by rw[hd] at z;cases z);have kl:FF.length=(aO p ts).length:=dr.length
   refine⟨λi m xs σ' H2=>m=(aO p ts).length-i/\i<=(aO p ts).length/\ay H H2/\H2 dd=some (k9 o FF)/\DR H2 FF (aO p ts)/\bR H2 xs (((aO p ts).take i).filter λe=>e.2.1 != 0)/\∃o1 o2,σ'=[o1,o2],
    ⟨(aO p ts).length,by simp,Nat.zero_le _,sF,ae,QS,.nil,none,none,rfl⟩,?_⟩
   rintro i m' xs σ' H2 ⟨rfl,Xf,s2,hd2,J7,GU,o1,o2,rfl⟩
   have xl:xs.length<=(aO p ts).length:=by
    rw[GU.length];exact Nat.le_trans (List.length_filter_le _ _) (by simp;omega)
   refine⟨Nat.lt_of_le_of_lt (Nat.le_trans xl gl) (Nat.lt_trans h64 (by decide)),?_⟩
   by_cases IF:i<(aO p ts).length
   ·refine .inr ⟨⟨by omega,hd2⟩,λx H3 hx=>?_⟩;obtain⟨pp,b,k,v,hk,IA,hb,rfl,rfl⟩:=hx;obtain⟨e,ee,ek,a,ev,ha⟩:=aL J7 hk;have ek:k=dR e.1:=ek;have ev:v=.ref a:=ev;subst ek;subst ev;have sP:ay H2 (upd H2 pp (.tup [.ref b,.ref a])):=au IA
    have Gk:(aO p ts).take (i+1)=(aO p ts).take i++[e]:=by rw[List.take_add_one,ee];rfl
    rw[fQ] at hb;refine⟨pp,_,rfl,bf.of ae,rfl,_,_,rfl,_,_,rfl,rfl,?_⟩;refine⟨_,rfl,a,_,0,_,rfl,rfl,bf.of (sP _ _ ha),rfl,rfl,_,rfl,?_⟩;have dP:upd H2 pp (.tup [.ref b,.ref a]) dd=some (k9 o FF):=sP _ _ hd2
    cases hz:(e.2.1 != 0) with
    |true =>
     have z:(!decide (V.int e.2.1=V.int 0))=true:=by
      have:e.2.1≠0:=by simpa using hz
      simp[this]
     rw[z];refine cb ⟨_,rfl,_,rfl,BJ,λt' K9=>?_⟩;have sT:ay (upd H2 pp (.tup [.ref b,.ref a])) (upd (upd H2 pp (.tup [.ref b,.ref a])) t' (.tup [.ref b,.ref a])):=au K9;have sA:ay H2 (upd (upd H2 pp (.tup [.ref b,.ref a])) t' (.tup [.ref b,.ref a])):=λc u e=>sT _ _ (sP _ _ e);refine⟨(aO p ts).length-(i+1),by omega,rfl,IF,λc u e=>sA _ _ (s2 _ _ e),sA _ _ hd2,J7.keep (az.of sA),?_,_,_,rfl⟩;rw[Gk,List.filter_append]
     have ef:[e].filter (λe=>e.2.1 != 0)=[e]:=by simp[hz]
     rw[ef];exact Paired.snoc (bR.keep GU (az.of sA)) ⟨t',b,a,rfl,ae,sA _ _ hb,sA _ _ ha⟩
    |false =>
     have z:(!decide (V.int e.2.1=V.int 0))=false:=by
      have:e.2.1=0:=by simpa using hz
      simp[this]
     rw[z];refine b8 ⟨(aO p ts).length-(i+1),by omega,rfl,IF,λc u e=>sP _ _ (s2 _ _ e),sP _ _ hd2,J7.keep (az.of sP),?_,_,_,rfl⟩;rw[Gk,List.filter_append]
     have ef:[e].filter (λe=>e.2.1 != 0)=[]:=by simp[hz]
     rw[ef,List.append_nil];exact bR.keep GU (az.of sP)
   ·have QT:i=(aO p ts).length:=by omega
    subst QT;refine .inl ⟨⟨by omega,hd2⟩,λD hD=>?_⟩;rw[List.take_length] at GU;have sD:ay H2 (upd H2 D (.lst xs)):=au hD;refine⟨_,rfl,D,xs,rfl,aY.of ae,Nat.lt_of_le_of_lt xl G.few,?_⟩;refine mM (bR.keep GU (az.of sD)) λks H3 s3 hk=>?_;refine⟨_,pU hk,sI Jh _,λD2 HU=>?_⟩;have sE:ay H3 (upd H3 D2 (.lst ((cA ((((aO p ts).filter λe=>e.2.1 != 0).map keyOf).zip xs)).map (·.2)))):=au HU;refine q _ D2 _ (λc u e=>sE _ _ (s3 _ _ (sD _ _ (s2 _ _ e)))) (none_of (λc u e=>s3 _ _ (sD _ _ (s2 _ _ e))) HU) ae ?_;have Ji:bR H3 xs ((aO p ts).filter λe=>e.2.1 != 0):=bR.keep GU (az.of λc u e=>s3 _ _ (sD _ _ e));exact bR.keep (jz (gV (jV Ji))) (az.of sE)
noncomputable abbrev nC:Stmt:=(aV 59)
noncomputable def lF:Sp:=λvs H Q _=>∃(l:Addr)(p:Int)(ys:List V)(ts:List Tm),vs=[.int p,.ref l]/\FP p/\H l=some (.lst ys)/\bR H ys ts/\BG p ts /\
 ∀H' D zs,ay H H'->H' D=some (.lst zs)->bR H' zs (cO (aO p ts))->Q (.ref D) H'
theorem ix:uZ ["_law_prime_here","_law_terms_here","_law_found","_law_product_here","_law_number_here","_law_rows"] rR (ao nC):=d8 (by decide +kernel)
noncomputable def zQ (H:Hp)(x:V)(e:Tm):Prop:=∃t b a,x=.ref t/\H t=some (.tup [.int e.1.length,.ref b,.ref a])/\H b=some (.tup (e.1.map V.int))/\H a=some (bE e.2.1 e.2.2)
theorem zQ.keep {t:Tm}(h:zQ H y t)(k:az H H'):zQ H' y t:=let⟨a,pr,nu,e,h1,h2,h3⟩:=h;⟨a,pr,nu,e,k _ _ h1,k _ _ h2,k _ _ h3⟩
noncomputable abbrev gJ (H:Hp):List V->List Tm->Prop:=Paired (zQ H)
theorem gJ.keep {ys:List V}(h:gJ H ys ts)(k:az H H'):gJ H' ys ts:=Paired.aaW h λ_ _ z=>z.keep k
theorem lR {K:Frag}:∀{ks:List V}{es:List Tm},gJ H ks es->cS K H ks (es.map keyOf)
 |_,_,.nil=>True.intro
 |_,_,.cons h t=>by
  obtain⟨t0,b,a,rfl,h1,h2,h3⟩:=h;exact⟨⟨t0,b,[.ref a],rfl,bf.of h1,bf.of h2⟩,lR t⟩
theorem yH {fl:Addr}{GW:ET}(F:uB K "_law_gather" "_law_gather" nC f fd)(F7:mg "sorted"=none)(m_len:mg "len"=none)
 (QU:Bu P w K mg base (aS P w) 3 fl GW Es (kO i5))(QV:L2.aA K GW Es [])(QW:mg "_law_plus"=some (.ref fl))(QX:keepIn K (.ref fl)=true):
 Bu P w K mg base (aS P w) 4 f fd rR lF:=by
 refine F.okN ix (λvs H Q E h=>?_) (λFJ A outer s H vs Q E hr h=>?_)
 ·obtain⟨l,p,ys,ts,rfl,_⟩:=h;rfl
 ·obtain⟨l,p,ys,ts,rfl,hp,hl,MG,G,q⟩:=h;have h64:=G.len;have hG:=G.num;have HE:om 3 _:=hr.mono (by decide);have QR:om (1+2) _:=hr.mono (by decide);have FY:om 1 _:=hr.mono (by decide);have hu:=(hr.units:_+64<cLine)
  replace hu:=Nat.lt_of_le_of_lt (Nat.add_le_add_left (by decide:1<=64) _) hu
  refine⟨_,(aj (@aK _ _ 2 _ _ _ _ ix.nd rfl (Or.inr rfl) jT rfl (Or.inl rfl))
   (aj (c9 PassesOwn.never rfl (bY (pv 1)) (cK rfl (aI (aE (i:=3) ix.nd rfl (Or.inl rfl)) (aI (aE (i:=4) ix.nd rfl (Or.inl rfl)) bX)))
   (ar (ib hu (pv 2) (pv 3) (ax QU HE (by rfl) QW QX QV .nil ag (@aq _ _ _ _ _ (pv 0) (@aq _ _ _ _ _ (pb hu (pv 2) (pv 3) (@bx _ _ _ _ _ (@aq _ _ _ _ _ ak (@aq _ _ _ _ _ ak ah rfl) rfl)) ⟨rfl,rfl,rfl,rfl⟩) (@aq _ _ _ _ _ (pv 4) ah rfl) rfl) rfl)) (by rfl))))
   (aj (oo (i:=5) (N:=["_law_product_here","_law_found"]) (nl:=1) (js:=[2]) (osc:=ao nC) ⟨rfl,rfl,by decide +kernel,by decide +kernel,by decide +kernel,rfl,(.cons ⟨rfl,by decide +kernel⟩ .nil),by decide +kernel⟩ rfl ix.nd rfl (Or.inl rfl)
    (zp (pv 2))
    (λC fp s H=>aE (i:=0) (by show(["_law_product_here","_law_found"]:wk).Nodup;decide +kernel) rfl (Or.inl rfl) (Or.inr rfl))
    (λC fp s H=>(fj (@aN _ _ _ _ _ _ _ _ (show fu _ _ (BC K true) from vW FY) (gq hu (pv 1) (pv 0) (λ_ _=>rfl)) (@bx _ _ _ _ _ (@aq _ _ _ _ _ ak (@aq _ _ _ _ _ ak ah rfl) rfl)) (aM _))))
    (λC fp s H=>(@bx _ _ _ _ _ (@aq _ _ _ _ _ (aF (show bZ _ _ (λxs H Q=>∃p ys,xs=[.ref p]/\(aY K H p ys\/bf K H p ys)/\Q (.int ys.length) H) from bU) (by rfl) m_len PySem.boot_len (@aq _ _ _ _ _ (pv 0) ah rfl)) (@aq _ _ _ _ _ (pv 0) (@aq _ _ _ _ _ (gq hu (pv 1) (pv 0) (λ_ _=>rfl)) ah rfl) rfl) rfl))) (by rfl))
   (ar (aB (dN (g:=ji K 3 (ck (bz 0) (ck (bz 1) (ck (bz 2) Ek)))) (N:=["_law_many","_law_product_here","_law_number_here"]) (nl:=3) (js:=[]) (osc:=ao nC) ⟨rfl,rfl,by decide +kernel,by decide +kernel,by decide +kernel,rfl,.nil,by decide +kernel⟩ rfl
    (bY (aF (pZ QR) (by rfl) F7 (by rfl) (@aq _ _ _ _ _ (pv 5) ah rfl)))
    (λC fp s H=>(cK (X:=bD _ ["_law_many","_law_product_here","_law_number_here"] _ C fp s H) rfl (aI (aE (X:=bD _ ["_law_many","_law_product_here","_law_number_here"] _ C fp s H) (i:=0) (by show(["_law_many","_law_product_here","_law_number_here"]:wk).Nodup;decide +kernel) rfl (Or.inl rfl) (Or.inr rfl)) (aI (aE (X:=bD _ ["_law_many","_law_product_here","_law_number_here"] _ C fp s H) (i:=1) (by show(["_law_many","_law_product_here","_law_number_here"]:wk).Nodup;decide +kernel) rfl (Or.inl rfl) (Or.inr rfl)) (aI (aE (X:=bD _ ["_law_many","_law_product_here","_law_number_here"] _ C fp s H) (i:=2) (by show(["_law_many","_law_product_here","_law_number_here"]:wk).Nodup;decide +kernel) rfl (Or.inl rfl) (Or.inr rfl)) bX)))))
    (λC fp s H=>eR)
    (λC fp s H=>(@bx _ _ _ _ _ (@aq _ _ _ _ _ (pv 1) (@aq _ _ _ _ _ (pv 2) ah rfl) rfl))))))))),?_⟩
  have hlen:=MG.length
  have gg:∀i,i<=ts.length->mr p 4000 (aO p (ts.take i))/\((aO p (ts.take i)).map (·.1)).Nodup/\(aO p (ts.take i)).length<=i:=λi hi=>by
   obtain⟨_,g2,g3⟩:=dA (m:=4000) hp i (ts.take i) (by simp;omega) λt ht=>hG t (List.mem_of_mem_take ht);exact⟨G.steps i hi,g2,g3⟩
  have one:∀{n:Nat}{a:Int×Int},Gn p n a->p≠0->a.2=1:=λh z=>(h.1.pr z).1;refine λdd Hk=>?_;have s1:ay H (upd H dd (.dT [])):=au Hk;refine⟨_,rfl,l,rfl,⟨ys,aY.of (s1 _ _ hl)⟩,?_⟩
  refine⟨λi m σ' H'=>m=ts.length-i/\i<=ts.length/\ay H H'/\(∃FF,H' dd=some (.dT FF)/\DR H' FF (aO p (ts.take i)))/\∃o3 o4,σ'=[some (.int p),some (.ref l),some (.ref dd),o3,o4,none],
   ⟨ts.length,by simp,Nat.zero_le _,s1,⟨[],ae,.nil⟩,none,none,rfl⟩,?_⟩
  rintro i m' σ' H' ⟨rfl,hi,sH,⟨FF,hd,dr⟩,o3,o4,rfl⟩;have Hy:=sH _ _ hl;obtain⟨gd,Jh,gl⟩:=gg i hi
  by_cases FO:i<ts.length
  ·have K7:i<ys.length:=by omega
   refine .inr ⟨⟨ys,ys[i],aY.of Hy,by simp[K7]⟩,λσ' H'=>i+1<=ts.length/\ay H H'/\(∃FF,H' dd=some (.dT FF)/\DR H' FF (aO p (ts.take (i+1))))/\∃o3 o4,σ'=[some (.int p),some (.ref l),some (.ref dd),o3,o4,none],?_,λy H2 hy=>?_⟩
   ·rintro σ' H' ⟨h1,h2,h3,h4⟩;exact⟨ts.length-(i+1),by omega,rfl,h1,h2,h3,h4⟩
   ·obtain⟨rfl,hy⟩:=hy;obtain⟨t,et,tr⟩:=aL MG (hy ys (aY.of Hy));obtain⟨a,pr,nu,rfl,ha,Gb,He⟩:=tr.keep (az.of sH);have gt:=hG t (List.mem_of_getElem? et)
    have Gk:ts.take (i+1)=ts.take i++[t]:=by rw[List.take_add_one,et];rfl
    have Hm:∀H3:Hp,az H2 H3->H3 pr=some (.tup ((dR t.1).map kV)):=λH3 k=>by rw[fQ];exact k _ _ Gb
    have fin:∀(H3:Hp)(an:Addr),ay H H3->az H2 H3->H3 dd=some (.dT FF)->((aO p (ts.take i)).any (λe=>decide (e.1=t.1))=false->H3 an=some (bE t.2.1 t.2.2)) →
     (∀e∈aO p (ts.take i),e.1=t.1->H3 an=some (bE (dZ p e.2 t.2).1 (dZ p e.2 t.2).2)) →
     ay H (upd H3 dd (.dT (cg FF (dR t.1) (.ref an))))/\∃ID,(upd H3 dd (.dT (cg FF (dR t.1) (.ref an)))) dd=some (.dT ID)/\DR (upd H3 dd (.dT (cg FF (dR t.1) (.ref an)))) ID (aO p (ts.take (i+1))):=by
     intro H3 an s3 k3 h3 GJ HD;refine⟨λb u e=>by rw[ai (av e Hk)];exact s3 b u e,_,ae,?_⟩;rw[Gk,eJ];exact(yq (dr.keep k3) Jh GJ HD).keep (az.upd λxs z=>by rw[h3] at z;cases z)
    have IE:FF.length<sizeLine:=by
     rw[dr.length];exact Nat.lt_of_le_of_lt gl (Nat.lt_trans (Nat.lt_of_le_of_lt hi h64) (by decide))
    refine⟨a,_,rfl,bf.of ha,rfl,_,_,rfl,_,_,rfl,rfl,?_⟩;refine⟨_,rfl,_,rfl,dd,rfl,.inr ⟨FF,.inl hd⟩,_,rfl,BJ,λt0 LP=>?_⟩;have sZ:ay H2 (upd H2 t0 (.tup [.int 0,.int 1])):=au LP;refine⟨_,fM.t (sZ _ _ hd) (Hm _ (az.of sZ)),?_⟩
    cases hq:(aO p (ts.take i)).any (λe=>decide (e.1=t.1)) with
    |false =>
     rw[qu t.1 dr hq];refine⟨_,rfl,p,0,1,t.2.1,t.2.2,t0,nu,rfl,hp,ae,sZ _ _ He,(by unfold B;decide),(by show(1:Nat)<2^4000;exact Nat.one_lt_two_pow (by decide)),gt.2.1,gt.2.2,(by decide),gt.ne,λz=>by rw[one gt z];decide,λH3 an s3 h3=>?_⟩;have ez:dZ p (0,1) t.2=t.2:=vo hp gt
     have Xg:H3 an=some (bE t.2.1 t.2.2):=by
      have:H3 an=some (bE (dZ p (0,1) t.2).1 (dZ p (0,1) t.2).2):=h3;rw[ez] at this;exact this
     have sA:ay H2 H3:=λb u e=>s3 _ _ (sZ _ _ e);refine⟨_,rfl,_,rfl,dd,_,rfl,kg.t (sA _ _ hd) (Hm _ (az.of sA)) IE,?_⟩
     obtain⟨f1,f2⟩:=fin H3 an (λb u e=>sA _ _ (sH _ _ e)) (az.of sA) (sA _ _ hd) (λ_=>Xg) λe he z=>by
      have:(aO p (ts.take i)).any (λe=>decide (e.1=t.1))=true:=List.any_eq_true.mpr ⟨e,he,by simpa using z⟩;rw[hq] at this;cases this
     exact⟨FO,f1,f2,_,_,rfl⟩
    |true =>
     obtain⟨e,he,ek,a0,hv,MH⟩:=iH t.1 dr hq;rw[hv];have ge:=gd e he;refine⟨_,rfl,p,e.2.1,e.2.2,t.2.1,t.2.2,a0,nu,rfl,hp,sZ _ _ MH,sZ _ _ He,ge.2.1,ge.2.2,gt.2.1,gt.2.2,ge.ne,gt.ne,λz=>by rw[one gt z,one ge z];decide,λH3 an s3 h3=>?_⟩;have sA:ay H2 H3:=λb u e=>s3 _ _ (sZ _ _ e);refine⟨_,rfl,_,rfl,dd,_,rfl,kg.t (sA _ _ hd) (Hm _ (az.of sA)) IE,?_⟩
     obtain⟨f1,f2⟩:=fin H3 an (λb u e=>sA _ _ (sH _ _ e)) (az.of sA) (sA _ _ hd) (λz=>by rw[hq] at z;cases z) λe' K8 z=>by
      have:e'=e:=eZ Jh K8 he (z.trans ek.symm);subst this;exact h3
     exact⟨FO,f1,f2,_,_,rfl⟩
  ·have ei:i=ts.length:=by omega
   subst ei;refine .inl ⟨⟨ys,aY.of Hy,by omega⟩,?_⟩;rw[List.take_length] at dr gd Jh gl;refine⟨_,rfl,dd,FF,rfl,.inr ⟨hd,λo=>?_⟩⟩
   have sF:ay H (upd H' dd (k9 o FF)):=λb u e=>by rw[ai (av e Hk)];exact sH b u e
   have QS:DR (upd H' dd (k9 o FF)) FF (aO p ts):=dr.keep (az.upd λxs z=>by rw[hd] at z;cases z);have kl:FF.length=(aO p ts).length:=dr.length
   refine⟨λi m xs σ' H2=>m=(aO p ts).length-i/\i<=(aO p ts).length/\ay H H2/\H2 dd=some (k9 o FF)/\DR H2 FF (aO p ts)/\gJ H2 xs (((aO p ts).take i).filter λe=>e.2.1 != 0)/\∃o1,σ'=[o1,some (.ref dd)],
    ⟨(aO p ts).length,by simp,Nat.zero_le _,sF,ae,QS,.nil,none,rfl⟩,?_⟩
   rintro i m' xs σ' H2 ⟨rfl,Xf,s2,hd2,J7,GU,o1,rfl⟩
   have xl:xs.length<=(aO p ts).length:=by
    rw[GU.length];exact Nat.le_trans (List.length_filter_le _ _) (by simp;omega)
   refine⟨Nat.lt_of_le_of_lt (Nat.le_trans xl gl) (Nat.lt_trans h64 (by decide)),?_⟩
   by_cases IF:i<(aO p ts).length
   ·refine .inr ⟨⟨by omega,hd2⟩,λx H3 hx=>?_⟩;obtain⟨b,k,v,hk,hb,rfl,rfl⟩:=hx;obtain⟨e,ee,ek,_⟩:=aL J7 hk;have ek:k=dR e.1:=ek;subst ek;have he:=List.mem_of_getElem? ee;have ge:=gd e he
    have Gk:(aO p ts).take (i+1)=(aO p ts).take i++[e]:=by rw[List.take_add_one,ee];rfl
    obtain⟨e',K8,Xh,a,hv,ha⟩:=iH e.1 J7 (List.any_eq_true.mpr ⟨e,he,by simp⟩);have:e'=e:=eZ Jh K8 he Xh;subst this;have dg:∀H4:Hp,ay H3 H4->fM H4 dd (.ref b) (some (.ref a)):=λH4 s4=>.inr ⟨FF,dR e'.1,b,.inr ⟨o,s4 _ _ hd2⟩,rfl,s4 _ _ hb,hv.symm⟩;have Gf:=hb;rw[fQ] at Gf;refine⟨_,rfl,_,rfl,dd,.ref a,rfl,dg _ (ay.refl _),BJ,λt0 LP=>?_⟩;have sZ:ay H3 (upd H3 t0 (bE 0 1)):=au LP;refine⟨_,_,Da (sZ _ _ ha),Da ae,by rw[EG];decide,_,rfl,?_⟩;rw[EU]
    cases hz:(e'.2.1 != 0) with
    |true =>
     have z:((e'.2.1==0&&e'.2.2==1) != true)=true:=by
      have:e'.2.1≠0:=by simpa using hz
      simp[this]
     rw[z];refine cb ⟨_,rfl,b,_,rfl,.inr (bf.of (sZ _ _ Gf)),_,rfl,_,rfl,_,rfl,dd,.ref a,rfl,dg _ sZ,D7,λt' K9=>?_⟩;rw[List.length_map];have sT:ay (upd H3 t0 (bE 0 1)) (upd (upd H3 t0 (bE 0 1)) t' (.tup [.int e'.1.length,.ref b,.ref a])):=au K9;have sA:ay H3 (upd (upd H3 t0 (bE 0 1)) t' (.tup [.int e'.1.length,.ref b,.ref a])):=λc u e=>sT _ _ (sZ _ _ e);refine⟨(aO p ts).length-(i+1),by omega,rfl,IF,λc u e=>sA _ _ (s2 _ _ e),sA _ _ hd2,J7.keep (az.of sA),?_,_,rfl⟩;rw[Gk,List.filter_append]
     have ef:[e'].filter (λe=>e.2.1 != 0)=[e']:=by simp[hz]
     rw[ef];exact Paired.snoc (gJ.keep GU (az.of sA)) ⟨t',b,a,rfl,ae,sA _ _ Gf,sA _ _ ha⟩
    |false =>
     have z:((e'.2.1==0&&e'.2.2==1) != true)=false:=by
      have h0:e'.2.1=0:=by simpa using hz
      have h1:e'.2.2=1:=by
       have g1:=ge.1.pos;have g2:=ge.1.red;rw[h0] at g2
       have:e'.2.2.natAbs=1:=by simpa using g2
       omega
      simp[h0,h1]
     rw[z];refine b8 ⟨(aO p ts).length-(i+1),by omega,rfl,IF,λc u e=>sZ _ _ (s2 _ _ e),sZ _ _ hd2,J7.keep (az.of sZ),?_,_,rfl⟩;rw[Gk,List.filter_append]
     have ef:[e'].filter (λe=>e.2.1 != 0)=[]:=by simp[hz]
     rw[ef,List.append_nil];exact gJ.keep GU (az.of sZ)
   ·have QT:i=(aO p ts).length:=by omega
    subst QT;refine .inl ⟨⟨by omega,hd2⟩,λD hD=>?_⟩;rw[List.take_length] at GU;have sD:ay H2 (upd H2 D (.lst xs)):=au hD;have Ji:=gJ.keep GU (az.of sD);refine⟨_,rfl,D,xs,_,rfl,aY.of ae,Nat.lt_of_le_of_lt xl G.few,lR Ji,sI Jh _,λD2 HU=>?_⟩;have QY:gJ (upd H2 D (.lst xs)) ((cA ((((aO p ts).filter λe=>e.2.1 != 0).map keyOf).zip xs)).map (·.2)) (cO (aO p ts)):=jz (gV (jV Ji));generalize (cA ((((aO p ts).filter λe=>e.2.1 != 0).map keyOf).zip xs)).map (·.2)=zs at QY |-;have zl:=QY.length
    have tl:(cO (aO p ts)).length<=(aO p ts).length:=by
     unfold cO;rw[List.length_map,(cy _).length_eq,List.length_map];exact List.length_filter_le _ _
    have sE:ay (upd H2 D (.lst xs)) (upd (upd H2 D (.lst xs)) D2 (.lst zs)):=au HU;have UA:=gJ.keep QY (az.of sE);have UB:ay H (upd (upd H2 D (.lst xs)) D2 (.lst zs)):=λc u e=>sE _ _ (sD _ _ (s2 _ _ e));have K6:upd (upd H2 D (.lst xs)) D2 (.lst zs) D2=some (.lst zs):=ae;generalize upd (upd H2 D (.lst xs)) D2 (.lst zs)=H4 at UA UB K6 |-;refine⟨D2,rfl,⟨zs,aY.of K6⟩,?_⟩;refine⟨λi m us σ' H5=>m=zs.length-i/\i<=zs.length/\ay H4 H5/\bR H5 us ((cO (aO p ts)).take i)/\∃o1 o2 o3,σ'=[o1,o2,o3],⟨zs.length,by simp,Nat.zero_le _,ay.refl _,.nil,none,none,none,rfl⟩,?_⟩;rintro i m' us σ' H5 ⟨rfl,hi5,s5,Pe,o1,o2,o3,rfl⟩
    have ul:us.length<=zs.length:=by
     rw[Pe.length];simp;omega
    refine⟨Nat.lt_of_le_of_lt (Nat.le_trans ul (Nat.le_trans (Nat.le_of_eq zl) (Nat.le_trans tl gl))) (Nat.lt_trans h64 (by decide)),?_⟩;have MI:=s5 _ _ K6
    by_cases MJ:i<zs.length
    ·refine .inr ⟨⟨zs,zs[i],aY.of MI,by simp[MJ]⟩,λx H6 hx=>?_⟩;obtain⟨rfl,hx⟩:=hx;obtain⟨e,ee,er⟩:=aL UA (hx zs (aY.of MI));obtain⟨t0,b,a,rfl,h1,h2,h3⟩:=er.keep (az.of s5)
     have Gk:(cO (aO p ts)).take (i+1)=(cO (aO p ts)).take i++[e]:=by rw[List.take_add_one,ee];rfl
     refine⟨t0,_,rfl,bf.of h1,rfl,_,_,rfl,_,_,rfl,_,_,rfl,rfl,?_⟩;dsimp only[Cc];refine cb ⟨_,rfl,_,rfl,BJ,λt' K9=>?_⟩;have sT:ay H6 (upd H6 t' (.tup [.ref b,.ref a])):=au K9;refine⟨zs.length-(i+1),by omega,rfl,MJ,λc u e=>sT _ _ (s5 _ _ e),?_,_,_,_,rfl⟩;rw[Gk];exact Paired.snoc (bR.keep Pe (az.of sT)) ⟨t',b,a,rfl,ae,sT _ _ h2,sT _ _ h3⟩
    ·have Xi:i=zs.length:=by omega
     subst Xi;refine .inl ⟨⟨zs,aY.of MI,Nat.le_refl _⟩,λD3 MK=>?_⟩;rw[zl,List.take_length] at Pe;have sL:ay H5 (upd H5 D3 (.lst us)):=au MK;exact q _ D3 _ (λc u e=>sL _ _ (s5 _ _ (UB _ _ e))) ae (bR.keep Pe (az.of sL))
noncomputable abbrev rX:Stmt:=br (aV 43) 0
noncomputable def CJ (ks:List Int):Prop:=kf (some (ks.map V.int))=true/\ks.length<4000
theorem yR {t b:Int}(n:Num p t b):wL p (some (.int t,.int b))=true:=by
 unfold wL;dsimp only
 by_cases z:p=0
 ·rw[if_pos z,n.red];have:=n.pos;simp;omega
 ·rw[if_neg z];obtain⟨h1,h2,h3⟩:=n.pr z;simp[h1,h2,h3]
theorem Dp {n:Nat}{t:Tm}(h:Dz H y t)(g:Gn p n t.2)(pd:CJ t.1):Ez p H y true:=by
 obtain⟨a,pr,nu,rfl,ha,Gb,He⟩:=h
 have e:Ez p H (.ref a) (kf (some (t.1.map V.int))&&wL p (some (.int t.2.1,.int t.2.2))):=.two ha (.tup Gb (by rw[List.length_map];exact pd.2) λy hy=>by
  obtain⟨k,_,rfl⟩:=List.mem_map.mp hy
  exact⟨_,.int k⟩) (.two He (.int _) (.int _))
 rw[pd.1,yR g.1] at e;exact e
theorem vV {n:Nat}:∀{ys:List V}{ts:List Tm},bR H ys ts->(∀t∈ts,Gn p n t.2/\CJ t.1)->∀y∈ys,Ez p H y true
 |_,_,.nil,_,y,hy=>nomatch hy
 |_,_,.cons h t,g,y,hy=>by
  rcases List.mem_cons.mp hy with rfl|hy
  ·exact Dp h (g _ List.mem_cons_self).1 (g _ List.mem_cons_self).2
  ·exact vV t (λt ht=>g t (List.mem_cons_of_mem _ ht)) y hy
structure Fm (K:Frag)(mg:FA)(C:Addr):Prop where
 cl:wm K C
 nF:cu K C "its_field"
 nT:cu K C "its_terms"
 mgC:mg "Sum"=some (.ref C)
noncomputable def Af (fl D:Addr):List (Str×V):=[("its_field",.ref fl),("its_terms",.ref D)]
noncomputable def ug (C CF:Addr):Sp:=λvs H Q _=>∃(s dx fl F3:Addr)(p:Int)(x:V)(ts:List Tm),vs=[.ref s,.ref fl,x]/\H s=some (.ins C dx [])/\H fl=some (.ins CF F3 (gZ p))/\FP p /\
 ((x=.non/\ts=[])\/∃l ys,x=.ref l/\H l=some (.lst ys)/\bR H ys ts)/\BG p ts/\(∀t∈ts,CJ t.1) /\
 ∀H' D zs,SameBut s H H'->H D=none->H' s=some (.ins C dx (Af fl D))->H' D=some (.lst zs)->bR H' zs (cO (aO p ts))->Q .non H'
theorem zJ:uZ xR xR (ao rX):=d8 (by decide +kernel)
theorem yu {fg fc C CF T:Addr}{Iz HR:ET}(F:Ec K "__init__" "Sum.__init__" rX f fd T)(c:Fm K mg C)
 (FG:Bu P w K mg base (aS P w) 5 fg Iz qD (qI CF))(bG:L2.aA K Iz qD [])(mG:mg "gathered"=some (.ref fg))(kG:keepIn K (.ref fg)=true)
 (FC:Bu P w K mg base (aS P w) 5 fc HR qD (lV CF))(bC:L2.aA K HR qD [])(mC:mg "checked_terms"=some (.ref fc))(kC:keepIn K (.ref fc)=true):
 Bu P w K mg base (aS P w) 6 f fd xR (ug C CF):=by
 refine F.okE zJ (λvs H Q E h=>?_) (λFJ A outer s H vs Q E hr h=>?_)
 ·obtain⟨s,dx,fl,F3,p,x,ts,rfl,_⟩:=h;rfl
 ·obtain⟨s0,dx,fl,F3,p,x,ts,rfl,hs,hf,hp,hx,G,hP,q⟩:=h;have hG:∀t∈ts,Gn p 4000 t.2/\CJ t.1:=λt ht=>⟨G.num t ht,hP t ht⟩;have LQ:om 5 _:=hr.mono (by decide);refine⟨_,aj (rF (pv 0) (pv 1) rfl) (ar (rF (pv 0) (ax FG LQ (by rfl) mG kG bG .nil ag (@aq _ _ _ _ _ (pv 1) (@aq _ _ _ _ _ (ax FC LQ (by rfl) mC kC bC .nil ag (@aq _ _ _ _ _ (pv 1) (@aq _ _ _ _ _ (pv 2) ah rfl) rfl)) ah rfl) rfl)) rfl)),?_⟩;refine⟨_,rfl,_,rfl,s0,C,dx,_,rfl,hs,c.cl,c.nF,by decide,?_⟩
  have Jp:fl≠s0:=λz=>by
   rw[z,hs] at hf
   injection hf with hf
   injection hf with _ _ hf
   cases hf
  have La:upd H s0 (.ins C dx (dJ "its_field" (.ref fl) [])) fl=some (.ins CF F3 (gZ p)):=by rw[ai Jp];exact hf
  have kT:az H (upd H s0 (.ins C dx (dJ "its_field" (.ref fl) []))):=az.upd λxs z=>by rw[hs] at z;cases z
  have fin:∀(H2:Hp)(l:Addr)(ys:List V),ay (upd H s0 (.ins C dx (dJ "its_field" (.ref fl) []))) H2->H2 l=some (.lst ys)->bR H2 ys ts->qI CF [.ref fl,.ref l] H2 (λy H1=>fH 0 [some (.ref s0),some (.ref fl),some x] H1 λx2 H2=>∃a C dx fs,x2=.ref a/\H2 a=some (.ins C dx fs)/\wm K C/\cu K C "its_terms"/\fs.length<1000 /\
   Q .non (upd H2 a (.ins C dx (dJ "its_terms" y fs)))) λ_ _ _=>False:=by
   intro H2 l ys s2 hl ht;refine⟨fl,F3,l,p,ys,ts,rfl,s2 _ _ La,hp,hl,ht,G,λH3 D zs s3 h0 hD hz=>?_⟩;have QZ:H3 s0=some (.ins C dx (dJ "its_field" (.ref fl) [])):=s3 _ _ (s2 _ _ ae);refine⟨_,rfl,s0,C,dx,_,rfl,QZ,c.cl,c.nT,(by show 1<1000;decide),?_⟩
   have nD:D≠s0:=λz=>by rw[z,QZ] at hD;cases hD
   refine q _ D zs (λb u e nb=>?_) (none_of (λc u e=>e) (by
    cases e:H D with
    |none=>rfl
    |some u=>rw[s2 D u (by rw[ai nD];exact e)] at h0;cases h0)) ae (by rw[ai nD];exact hD) (bR.keep hz (az.upd λxs z=>by rw[QZ] at z;cases z))
   rw[ai nb];exact s3 _ _ (s2 _ _ (by rw[ai nb];exact e))
  rcases hx with⟨rfl,rfl⟩|⟨l,ys,rfl,hl,ht⟩
  ·refine⟨_,rfl,_,rfl,_,rfl,fl,F3,p,.non,rfl,La,hp,.inl ⟨rfl,λl hl=>?_⟩⟩;exact fin _ l [] (au hl) ae .nil
  ·have nl:l≠s0:=λz=>by rw[z,hs] at hl;cases hl
   have HC:upd H s0 (.ins C dx (dJ "its_field" (.ref fl) [])) l=some (.lst ys):=by rw[ai nl];exact hl
   have IG:=bR.keep ht kT;refine⟨_,rfl,_,rfl,_,rfl,fl,F3,p,.ref l,rfl,La,hp,.inr ⟨l,ys,rfl,HC,?_,vV IG hG,λH2 s2=>?_⟩⟩
   ·rw[ht.length];have:=G.len;omega
   ·exact fin _ l ys s2 (s2 _ _ HC) (bR.keep IG (az.of s2))
end K24
namespace Mx
open PySem PyProof.Rows
end Mx
namespace L2
open PySem PySem.Spec PyProof.Rows PySem.W
end L2
namespace K24
open PySem L2 PySem.W Nm Srt
noncomputable abbrev sO:Stmt:=br (aV 43) 5
noncomputable abbrev sN:Stmt:=br (aV 43) 6
structure zU (C CF:Addr)(H:Hp)(s:Addr)(p:Int)(ts:List Tm):Prop where
 ex:∃dx fl F3 D zs,H s=some (.ins C dx (Af fl D))/\H fl=some (.ins CF F3 (gZ p))/\H D=some (.lst zs)/\bR H zs ts
noncomputable def oY (C CF:Addr):Sp:=λvs H Q _=>∃(s dx fl D:Addr),vs=[.ref s]/\H s=some (.ins C dx (Af fl D))/\Q (.ref fl) H
noncomputable def iw (C CF:Addr):Sp:=λvs H Q _=>∃(s dx fl D:Addr)(zs:List V),vs=[.ref s]/\H s=some (.ins C dx (Af fl D))/\H D=some (.lst zs)/\∀l,H l=none->Q (.ref l) (upd H l (.lst zs))
theorem xZ:uZ ["self"] ["self"] (ao sO):=d8 (by decide +kernel)
theorem wA:uZ ["self"] ["self"] (ao sN):=d8 (by decide +kernel)
variable {P:vQ}{w:World}{K:PySem.W.Frag}{mg:FA}{base:Heap}
theorem uM {f C CF:Addr}{fd:ET}(F:uB K "field" "Sum.field" sO f fd)(c:Fm K mg C):Bu P w K mg base (aS P w) 1 f fd ["self"] (oY C CF):=by
 refine F.okN xZ (λvs H Q E h=>?_) (λFJ A outer s H vs Q E hr h=>?_)
 ·obtain⟨s,dx,fl,D,rfl,_⟩:=h;rfl
 ·obtain⟨s0,dx,fl,D,rfl,hs,q⟩:=h;exact⟨_,ar (aB (dX (pv 0) rfl)),_,rfl,s0,C,dx,_,_,rfl,hs,c.cl,c.nF,rfl,q⟩
theorem vb {f C CF:Addr}{fd:ET}(F:uB K "terms" "Sum.terms" sN f fd)(c:Fm K mg C)(Gp:mg "list"=none):Bu P w K mg base (aS P w) 1 f fd ["self"] (iw C CF):=by
 refine F.okN wA (λvs H Q E h=>?_) (λFJ A outer s H vs Q E hr h=>?_)
 ·obtain⟨s,dx,fl,D,zs,rfl,_⟩:=h;rfl
 ·obtain⟨s0,dx,fl,D,zs,rfl,hs,hD,q⟩:=h;refine⟨_,ar (aB (eN oB (by rfl) Gp (by rfl) (@aq _ _ _ _ _ (dX (pv 0) rfl) ah rfl))),?_⟩;exact⟨_,rfl,s0,C,dx,_,_,rfl,hs,c.cl,c.nT,rfl,D,zs,rfl,.inl (aY.of hD),λl hl=>q l hl⟩
end K24
namespace L2
open PySem
variable {H:Hp}
theorem zh {σ:St}{A B:Hp->Prop}(h:A H):Cc σ H λb H4=>if b=true then A H4 else B H4:=h
variable {tt:TT}{te:TE}
theorem yE {J:It}{n:Nat}{at_:Nat->V->Prop}{rest:St}{F:List V->Hp->Prop}(Pv:Nat->List V->Hp->Prop)(h0:Pv 0 [] H)
 (hz:∀i ys H',i<=n->Pv i ys H'->ys.length<sizeLine/\(i<n->J.go i H')/\(i=n->J.stop i H')/\∀x H2,J.yld i H' x H2->H2=H'/\at_ i x)
 (hs:∀i x ys H' (N:List V->Hp->Prop),i<n->at_ i x->Pv i ys H'->(∀zs H5,Pv (i+1) zs H5->N zs H5) →
  tt (some x::rest) H' λb H4=>if b=true then te (some x::rest) H4 λy H5=>N (ys++[y]) H5 else N ys H4)
 (hd:∀ys H',Pv n ys H'->F ys H'):
 ∃W:Nat->Nat->List V->St->Hp->Prop,(∃m,W 0 m [] (none::rest) H)/\ml J (bz 0) tt te W F:=by
 refine⟨λi m ys σ H'=>m=n-i/\i<=n/\Pv i ys H'/\∃o,σ=o::rest,⟨n,by simp,Nat.zero_le _,h0,none,rfl⟩,?_⟩;rintro i m ys σ H' ⟨rfl,hi,p,o,rfl⟩;obtain⟨z1,z2,z3,z4⟩:=hz i ys H' hi p;refine⟨z1,?_⟩
 by_cases FO:i<n
 ·refine .inr ⟨z2 FO,λx H2 hy=>?_⟩;obtain⟨rfl,hx⟩:=z4 x H2 hy;exact hs i x ys H2 (λzs H5=>∃m',m'<n-i/\m'=n-(i+1)/\i+1<=n/\Pv (i+1) zs H5/\∃o',(some x::rest:St)=o'::rest) FO hx p λzs H5 h=>⟨n-(i+1),by omega,rfl,FO,h,_,rfl⟩
 ·have:i=n:=by omega
  subst this;exact .inl ⟨z3 rfl,hd ys H' p⟩
theorem wZ {K:PySem.W.Frag}{a:Addr}{xs:List V}{rest:St}{F:List V->Hp->Prop}(Pv:Nat->List V->Hp->Prop)(h0:Pv 0 [] H)
 (hz:∀i ys H',i<=xs.length->Pv i ys H'->ys.length<sizeLine/\aY K H' a xs)
 (hs:∀i x ys H' (N:List V->Hp->Prop),i<xs.length->xs[i]?=some x->Pv i ys H'->(∀zs H5,Pv (i+1) zs H5->N zs H5) →
  tt (some x::rest) H' λb H4=>if b=true then te (some x::rest) H4 λy H5=>N (ys++[y]) H5 else N ys H4)
 (hd:∀ys H',Pv xs.length ys H'->F ys H'):
 ∃W:Nat->Nat->List V->St->Hp->Prop,(∃m,W 0 m [] (none::rest) H)/\ml (BI K a) (bz 0) tt te W F:=by
 refine yE (n:=xs.length) (at_:=λi x=>xs[i]?=some x) Pv h0 (λi ys H' hi p=>?_) hs hd;obtain⟨z1,z2⟩:=hz i ys H' hi p;exact⟨z1,λh=>⟨xs,xs[i],z2,by simp[h]⟩,λh=>⟨xs,z2,by omega⟩,λx H2 hy=>⟨hy.1,hy.2 xs z2⟩⟩
theorem iL {K:PySem.W.Frag}{a:Addr}{xs:List V}{rest:St}{F:List V->Hp->Prop}(Pv:Nat->List V->Hp->Prop)(h0:Pv 0 [] H)
 (hz:∀i ys H',i<=xs.length->Pv i ys H'->ys.length<sizeLine/\aY K H' a xs)
 (hs:∀i x ys H',i<xs.length->xs[i]?=some x->Pv i ys H' →
  ∃b u v,x=.ref b/\bf K H' b [u,v]/\∀(N:List V->Hp->Prop),(∀zs H5,Pv (i+1) zs H5->N zs H5)->tt (some u::some v::rest) H' λb H4=>if b=true then te (some u::some v::rest) H4 λy H5=>N (ys++[y]) H5 else N ys H4)
 (hd:∀ys H',Pv xs.length ys H'->F ys H'):
 ∃W:Nat->Nat->List V->St->Hp->Prop,(∃m,W 0 m [] (none::none::rest) H)/\ml (BI K a) (ji K 2 (ck (bz 0) (ck (bz 1) Ek))) tt te W F:=by
 refine⟨λi m ys σ H'=>m=xs.length-i/\i<=xs.length/\Pv i ys H'/\∃o o2,σ=o::o2::rest,⟨xs.length,by simp,Nat.zero_le _,h0,none,none,rfl⟩,?_⟩;rintro i m ys σ H' ⟨rfl,hi,p,o,o2,rfl⟩;obtain⟨z1,z2⟩:=hz i ys H' hi p;refine⟨z1,?_⟩
 by_cases FO:i<xs.length
 ·refine .inr ⟨⟨xs,xs[i],z2,by simp[FO]⟩,λx H2 hy=>?_⟩;obtain⟨rfl,hx⟩:=hy;obtain⟨b,u,v,rfl,hb,h⟩:=hs i x ys H2 FO (hx xs z2) p;exact⟨_,[u,v],rfl,hb,rfl,_,_,rfl,_,_,rfl,rfl,h (λzs H5=>∃m',m'<xs.length-i/\m'=xs.length-(i+1)/\i+1<=xs.length/\Pv (i+1) zs H5/\∃o o2,(some u::some v::rest:St)=o::o2::rest) λzs H5 h=>⟨xs.length-(i+1),by omega,rfl,FO,h,_,_,rfl⟩⟩
 ·have:i=xs.length:=by omega
  subst this;exact .inl ⟨⟨xs,z2,Nat.le_refl _⟩,hd ys H' p⟩
end L2
namespace K24
open PySem L2 PySem.W Nm Srt
noncomputable abbrev qM:Stmt:=(aV 57)
theorem sS:∀{ks:List Int},ks.Pairwise (· < ·)->i4 (ks.map V.int)=true
 |[],_=>rfl
 |[k],_=>rfl
 |a::b::ks,h=>by
  obtain⟨h1,h2⟩:=List.pairwise_cons.mp h;have ih:=sS h2;unfold i4 at ih |-;have e:((a::b::ks).map V.int).zip (((a::b::ks).map V.int).drop 1)=(V.int a,V.int b):: (((b::ks).map V.int).zip (((b::ks).map V.int).drop 1)):=rfl;rw[e,List.all_cons,ih,Bool.and_true];exact decide_eq_true (h1 b List.mem_cons_self)
theorem Bd {ks:List Int}(h:ks.Pairwise (· < ·))(hb:∀k∈ks,0<=k/\k<60)(hl:ks.length<4000):CJ ks:=by
 refine⟨?_,hl⟩;show((ks.map V.int).all cB&&i4 (ks.map V.int))=true;rw[sS h,Bool.and_true,List.all_map,List.all_eq_true];intro k hk;obtain⟨h0,h1⟩:=hb k hk;show(decide (0<=k)&&decide (k<60))=true;rw[decide_eq_true h0,decide_eq_true h1];rfl
noncomputable def qA:Sp:=λvs H Q _=>∃(r:Addr)(many share:Int),vs=[.ref r,.int many,.int share]/\aZ H r/\0<=many/\many<=60/\0<share/\share<1000 /\
 ∀(a:Addr)(ks:List Int)(H':Hp),ks.Pairwise (· < ·)->(∀k∈ks,0<=k/\k<many)->ks.length<=60->H' a=some (.tup (ks.map V.int))->aZ H' r->SameBut r H H'->Q (.ref a) H'
theorem Ah:uZ rW rW (ao qM):=d8 (by decide +kernel)
variable {P:vQ}{w:World}{K:PySem.W.Frag}{mg:FA}{base:Heap}
variable {f:Addr}{fd:ET}
theorem xa {ft:Addr}{GA:ET}(F:uB K "_law_product" "_law_product" qM f fd)(FZ:mg "tuple"=none)(m_range:mg "range"=none)
 (FT:Bu P w K mg base (aS P w) 1 ft GA Ft zy)(bT:L2.aA K GA Ft [])(mT:mg "_law_take"=some (.ref ft))(kT:keepIn K (.ref ft)=true):
 Bu P w K mg base (aS P w) 2 f fd rW qA:=by
 refine F.okN Ah (λvs H Q E h=>?_) (λFJ A outer s H vs Q E hr h=>?_)
 ·obtain⟨r,many,share,rfl,_⟩:=h;rfl
 ·obtain⟨r,many,share,rfl,hR,m0,m1,s0,s1,q⟩:=h;have FY:om 1 _:=hr.mono (by decide)
  refine⟨_,(ar (aB (eN lL (by rfl) FZ (by rfl) (@aq _ _ _ _ _ (dN (N:=["_law_place","_law_room_here","_law_share"]) (nl:=1) (js:=[0,2]) (osc:=ao qM) ⟨rfl,rfl,by decide +kernel,by decide +kernel,by decide +kernel,rfl,(.cons ⟨rfl,by decide +kernel⟩ (.cons ⟨rfl,by decide +kernel⟩ .nil)),by decide +kernel⟩ rfl
   (eM (by rfl) m_range (@aq _ _ _ _ _ (pv 1) ah rfl))
   (λC fp s H=>aE (i:=0) (by show(["_law_place","_law_room_here","_law_share"]:wk).Nodup;decide +kernel) rfl (Or.inl rfl) (Or.inr rfl))
   (λC fp s H=>(fj (@aN _ _ _ _ _ _ _ _ dC (ax FT FY (by rfl) mT kT bT .nil ag (@aq _ _ _ _ _ (pv 1) (@aq _ _ _ _ _ (pv 2) ah rfl) rfl)) ak (aM _))))
   (λC fp s H=>(pv 0))) ah rfl)))),?_⟩
  refine⟨_,rfl,many,rfl,by omega,by omega,?_⟩
  refine⟨λi m xs σ' H'=>m=many.toNat-i/\i<=many.toNat/\(∃ks:List Int,xs=ks.map V.int/\ks.Pairwise (· < ·)/\(∀k∈ks,0<=k/\k<(i:Int))/\ks.length<=i)/\aZ H' r/\SameBut r H H'/\∃o,σ'=[o,some (.ref r),some (.int share)],
   ⟨many.toNat,by simp,Nat.zero_le _,⟨[],rfl,.nil,λk h=>(nomatch h),Nat.le_refl _⟩,hR,λ_ _ e _=>e,none,rfl⟩,?_⟩
  rintro i m xs σ' H' ⟨rfl,hi,⟨ks,rfl,ML,LR,MM⟩,⟨l,x,Lb,x0,x1⟩,sb,o,rfl⟩;refine⟨by rw[List.length_map];exact Nat.lt_of_le_of_lt (Nat.le_trans MM (show i<=60 by omega)) (by decide),?_⟩
  by_cases FO:i<many.toNat
  ·refine .inr ⟨FO,λy H2 hy=>?_⟩;obtain⟨rfl,rfl⟩:=hy;refine⟨_,rfl,_,rfl,r,l,x,share,rfl,Lb,x0,x1,s0,by omega,λz l2 r2 z0 z1 g0 g1=>?_⟩;have J6:SameBut r H (upd H2 r (.lst [.int l2,.int r2])):=sb.trans SameBut.upd;have R2:aZ (upd H2 r (.lst [.int l2,.int r2])) r:=⟨l2,r2,ae,g0,g1⟩;refine⟨rfl,_,rfl,?_⟩;refine cG (λh=>?_) (λh=>?_)
   ·refine⟨_,rfl,many.toNat-(i+1),by omega,rfl,FO,⟨ks++[0+(i:Int)],by simp,?_,?_,by simp;omega⟩,R2,J6,_,rfl⟩
    ·refine List.pairwise_append.mpr ⟨ML,List.pairwise_singleton _ _,λa ha b hb=>?_⟩
     have:b=0+(i:Int):=by simpa using hb
     have:=(LR a ha).2;omega
    ·intro k hk
     rcases List.mem_append.mp hk with hk|hk
     ·have:=LR k hk;omega
     ·have:k=0+(i:Int):=by simpa using hk
      omega
   ·exact⟨many.toNat-(i+1),by omega,rfl,FO,⟨ks,rfl,ML,λk hk=>by have:=LR k hk;omega,by omega⟩,R2,J6,_,rfl⟩
  ·have ei:i=many.toNat:=by omega
   refine .inl ⟨by show many.toNat<=i;omega,λD hD=>?_⟩;refine⟨D,_,rfl,.inl ⟨aY.of ae,λa ha=>?_⟩⟩;have nD:r≠D:=av Lb hD;have na:r≠a:=av (show upd H' D (.lst (ks.map V.int)) r=some (.lst [.int l,.int x]) by rw[ai nD];exact Lb) ha;refine q a ks _ ML (λk hk=>by have:=LR k hk;omega) (by omega) ae ⟨l,x,by rw[ai na,ai nD];exact Lb,x0,x1⟩ λb u e nb=>?_;have e1:=sb b u e nb
   have e2:upd H' D (.lst (ks.map V.int)) b=some u:=by rw[ai (av e1 hD)];exact e1
   rw[ai (av e2 ha)];exact e2
noncomputable abbrev sX:Stmt:=(aV 58)
noncomputable def DX (p many:Int)(t:Tm):Prop:=Gn p 45 t.2/\t.1.Pairwise (· < ·)/\(∀k∈t.1,0<=k/\k<many)/\t.1.length<=60
noncomputable def yO:Sp:=λvs H Q _=>∃(r:Addr)(p many most:Int),vs=[.ref r,.int p,.int many,.int most]/\aZ H r/\FP p/\0<=many/\many<=60/\0<=most/\most<=40 /\
 ∀(D:Addr)(ys:List V)(ts:List Tm)(H':Hp),H' D=some (.lst ys)->bR H' ys ts->(ts.length:Int)<=most->(∀t∈ts,DX p many t)->aZ H' r->SameBut r H H'->Q (.ref D) H'
theorem aZ.abu {H H':Hp}{r:Addr}(h:aZ H r)(s:SameBut r H H'):az H H':=λb xs e=>s b _ e λz=>by
 obtain⟨l,x,e',_⟩:=h;rw[z,e'] at e
 cases e
theorem ir:uZ ["_law_room_here","_law_prime_here","_law_many","_law_most","_law_found","_law_k","_law_product_here"] DN (ao sX):=d8 (by decide +kernel)
theorem vd {ft fp fn:Addr}{GA HP UC:ET}(F:uB K "_law_terms" "_law_terms" sX f fd)(m_range:mg "range"=none)
 (FT:Bu P w K mg base (aS P w) 1 ft GA Ft zy)(bT:L2.aA K GA Ft [])(mT:mg "_law_take"=some (.ref ft))(kT:keepIn K (.ref ft)=true)
 (FP:Bu P w K mg base (aS P w) 2 fp HP rW qA)(bP:L2.aA K HP rW [])(mP:mg "_law_product"=some (.ref fp))(kP:keepIn K (.ref fp)=true)
 (FN:Bu P w K mg base (aS P w) 2 fn UC yi zr)(bN:L2.aA K UC yi [])(mN:mg "_law_number"=some (.ref fn))(kN:keepIn K (.ref fn)=true):
 Bu P w K mg base (aS P w) 3 f fd DN yO:=by
 refine F.okN ir (λvs H Q E h=>?_) (λFJ A outer s H vs Q E hr h=>?_)
 ·obtain⟨r,p,many,most,rfl,_⟩:=h;rfl
 ·obtain⟨r,p,many,most,rfl,hR,hp,m0,m1,n0,n1,q⟩:=h;have G9:om 2 _:=hr.mono (by decide);have FY:om 1 _:=hr.mono (by decide)
  refine⟨_,(aj (@aK _ _ 4 _ _ _ _ ir.nd rfl (Or.inl rfl) (@cD _ _ _ _ ah) rfl (Or.inl rfl))
   (aj (c9 PassesOwn.never rfl (eM (by rfl) m_range (@aq _ _ _ _ _ (ax FT FY (by rfl) mT kT bT .nil ag (@aq _ _ _ _ _ (pv 0) (@aq _ _ _ _ _ (@aD _ _ _ _ _ _ _ _ dt (pv 3) ak) ah rfl) rfl)) ah rfl)) (aE (i:=5) ir.nd rfl (Or.inl rfl))
   (aj (@aK _ _ 6 _ _ _ _ ir.nd rfl (Or.inl rfl) (ax FP G9 (by rfl) mP kP bP .nil ag (@aq _ _ _ _ _ (pv 0) (@aq _ _ _ _ _ (pv 2) (@aq _ _ _ _ _ (@aD _ _ _ _ _ _ _ _ dt ak (ax FT FY (by rfl) mT kT bT .nil ag (@aq _ _ _ _ _ (pv 0) (@aq _ _ _ _ _ ak ah rfl) rfl))) ah rfl) rfl) rfl)) rfl (Or.inl rfl))
   (ar (jy (yn PySem.F.plainAttrs_list PySem.F.slot_list_append PySem.F.type_list_append vi (pv 4) (@aq _ _ _ _ _ (@bx _ _ _ _ _ (@aq _ _ _ _ _ (pv 6) (@aq _ _ _ _ _ (ax FN G9 (by rfl) mN kN bN .nil ag (@aq _ _ _ _ _ (pv 0) (@aq _ _ _ _ _ (pv 1) ah rfl) rfl)) ah rfl) rfl)) ah rfl))))))
   (ar (aB (pv 4))))),?_⟩
  refine⟨Nat.zero_le _,λD hD=>?_⟩;obtain⟨l0,x0,Jj,a0,a1⟩:=hR;have LS:r≠D:=av Jj hD
  have Xj:upd H D (.lst []) r=some (.lst [.int l0,.int x0]):=by rw[ai LS];exact Jj
  refine⟨_,rfl,_,rfl,_,_,rfl,rfl,r,l0,x0,most+1,rfl,Xj,a0,a1,by omega,by omega,λz l1 x1 z0 z1 b0 b1=>?_⟩
  have J5:SameBut r H (upd (upd H D (.lst [])) r (.lst [.int l1,.int x1])):=λb u e nb=>by rw[ai nb,ai (av e hD)];exact e
  have R1:aZ (upd (upd H D (.lst [])) r (.lst [.int l1,.int x1])) r:=⟨l1,x1,ae,b0,b1⟩
  have IC:upd (upd H D (.lst [])) r (.lst [.int l1,.int x1]) D=some (.lst []):=by rw[ai (Ne.symm LS)];exact ae
  generalize upd (upd H D (.lst [])) r (.lst [.int l1,.int x1])=H1 at J5 R1 IC |-;refine⟨z,rfl,by omega,by omega,?_⟩
  refine⟨λi m σ' H'=>m=z.toNat-i/\i<=z.toNat/\aZ H' r/\SameBut r H H'/\(∃ys ts,H' D=some (.lst ys)/\bR H' ys ts/\ts.length=i/\∀t∈ts,DX p many t)/\∃o5 o6,σ'=[some (.ref r),some (.int p),some (.int many),some (.int most),some (.ref D),o5,o6],
   ⟨z.toNat,by simp,Nat.zero_le _,R1,J5,⟨[],[],IC,.nil,rfl,λt h=>(nomatch h)⟩,none,none,rfl⟩,?_⟩
  rintro i m σ' H' ⟨rfl,hi,Lb,JN,⟨ys,ts,eD,ht,tl,tg⟩,o5,o6,rfl⟩
  by_cases FO:i<z.toNat
  ·refine .inr ⟨FO,λσ' H'=>aZ H' r/\SameBut r H H'/\(∃ys ts,H' D=some (.lst ys)/\bR H' ys ts/\ts.length=i+1/\∀t∈ts,DX p many t)/\∃o5 o6,σ'=[some (.ref r),some (.int p),some (.int many),some (.int most),some (.ref D),o5,o6],?_,λy H2 hy=>?_⟩
   ·rintro σ' H' ⟨h1,h2,h3,h4⟩;exact⟨z.toNat-(i+1),by omega,rfl,FO,h1,h2,h3,h4⟩
   ·obtain⟨rfl,rfl⟩:=hy;obtain⟨l2,x2,e2,c0,c1⟩:=Lb;refine⟨_,rfl,_,rfl,_,rfl,r,l2,x2,2,rfl,e2,c0,c1,by decide,by decide,λu l3 x3 u0 u1 d0 d1=>?_⟩;have R3:aZ (upd H2 r (.lst [.int l3,.int x3])) r:=⟨l3,x3,ae,d0,d1⟩;have Pf:SameBut r H2 (upd H2 r (.lst [.int l3,.int x3])):=SameBut.upd;generalize upd H2 r (.lst [.int l3,.int x3])=H3 at R3 Pf |-;refine⟨_,_,rfl,rfl,r,many,2+u,rfl,R3,m0,m1,by omega,by omega,λa ks H4 ML LR MM ha R4 Q1=>?_⟩;have Pd:H4 D=some (.lst ys):=Q1 _ _ (Pf _ _ eD (Ne.symm LS)) (Ne.symm LS);have k2:az H2 H3:=aZ.abu ⟨l2,x2,e2,c0,c1⟩ Pf;have k3:az H3 H4:=R3.abu Q1;refine⟨_,rfl,.inl ⟨rfl,_,aY.of Pd⟩,_,rfl,_,rfl,_,rfl,r,p,rfl,hp,R4,λan tt bb H5 hn B1 B2 Xk R5 Q2=>?_⟩;have k4:az H4 H5:=R4.abu Q2;refine⟨BJ,λtu Xl=>?_⟩;have MI:H5 D=some (.lst ys):=Q2 _ _ Pd (Ne.symm LS);have sU:ay H5 (upd H5 tu (.tup [.ref a,.ref an])):=au Xl;have UD:=sU _ _ MI;refine⟨D,ys,.ref tu,rfl,rfl,UD,?_,?_⟩
    ·rw[ht.length];exact Nat.lt_of_le_of_lt (show ts.length<=60 by omega) (by decide)
    have kD:az (upd H5 tu (.tup [.ref a,.ref an])) (upd (upd H5 tu (.tup [.ref a,.ref an])) D (.lst (ys++[.ref tu]))):=az.upd λxs z=>by rw[UD] at z;cases z
    have kA:az H2 (upd (upd H5 tu (.tup [.ref a,.ref an])) D (.lst (ys++[.ref tu]))):=((k2.trans k3).trans k4).trans ((az.of sU).trans kD);obtain⟨l6,x6,e6,f0,f1⟩:=R5;refine⟨⟨l6,x6,by rw[ai LS];exact sU _ _ e6,f0,f1⟩,λb u e nb=>?_,⟨_,ts++[(ks,tt,bb)],ae,Paired.snoc (bR.keep ht kA) ⟨tu,a,an,rfl,kD _ _ ae,kD _ _ (sU _ _ (k4 _ _ ha)),kD _ _ (sU _ _ Xk)⟩,by simp[tl],λt h=>?_⟩,_,_,rfl⟩
    ·have Xm:b≠D:=av e hD;rw[ai Xm];exact sU _ _ (Q2 _ _ (Q1 _ _ (Pf _ _ (JN _ _ e nb) nb) nb) nb)
    ·rcases List.mem_append.mp h with h|h
     ·exact tg t h
     ·have:t=(ks,tt,bb):=by simpa using h
      subst this;exact⟨⟨hn,B1,B2⟩,ML,LR,MM⟩
  ·have ei:i=z.toNat:=by omega
   refine .inl ⟨by show z.toNat<=i;omega,?_⟩;exact⟨_,rfl,q D ys ts H' eD ht (by omega) tg Lb JN⟩
noncomputable abbrev tR:Stmt:=(aV 54)
theorem v8:uZ Es Es (ao tR):=d8 (by decide +kernel)
theorem uW {fl:Addr}{GW:ET}(F:uB K "_law_times" "_law_times" tR f fd)(FL:Bu P w K mg base (aS P w) 2 fl GW Cz El)(bL:L2.aA K GW Cz [])(mL:mg "_law_make"=some (.ref fl))(kL:keepIn K (.ref fl)=true):
 Bu P w K mg base (aS P w) 3 f fd Es (kO jB):=by
 refine F.okN v8 (λvs H Q E h=>?_) (λFJ A outer s H vs Q E hr h=>?_)
 ·obtain⟨p,t1,b1,t2,b2,x1,x2,rfl,_⟩:=h;rfl
 ·obtain⟨p,t1,b1,t2,b2,x1,x2,rfl,hp,h1,h2,B1,B2,B3,B4,n1,n2,hb,q⟩:=h;refine⟨_,ar (aB (ax FL hr (by rfl) mL kL bL .nil ag (aq (pv 0) (aq (aD cz (aX bw (pv 1) ak (λ_ _=>rfl)) (aX bw (pv 2) ak (λ_ _=>rfl))) (aq (aD cz (aX bw (pv 1) ak (λ_ _=>rfl)) (aX bw (pv 2) ak (λ_ _=>rfl))) ah))))),?_⟩;refine⟨_,rfl,?_⟩;refine⟨_,rfl,x1,_,0,_,rfl,rfl,bf.of h1,a0 _ _,_,rfl,x2,_,0,_,rfl,rfl,bf.of h2,a0 _ _,_,_,rfl,rfl,⟨B1.mono (by decide),B3.mono (by decide)⟩,?_⟩;refine⟨_,rfl,x1,_,1,_,rfl,rfl,bf.of h1,a1 _ _,_,rfl,x2,_,1,_,rfl,rfl,bf.of h2,a1 _ _,_,_,rfl,rfl,⟨B2.mono (by decide),B4.mono (by decide)⟩,?_⟩;exact⟨p,_,_,rfl,hp,se n1 n2,(B2.mul B4).mono (by decide),(B1.mul B3).mono (by decide),hb,q⟩
end K24
namespace L2
open PySem PySem.Spec PyProof.Rows
theorem lE (k v target iter:Expr)(ifs:Bo)(scope:Scope)(pos:Pos)(it:Value)(d:Addr)(env:Env):
 compTurn (.DictComp k v [⟨target,iter,ifs,0⟩] scope pos) 0 it (.ref d) env=(do
  standAt iter.pos
  match <-pyNext it with
  |none=>pure (.done .next)
  |some x =>
   letOwnedTupleGo target it x
   assign target env x
   let mut ok:=true
   for c in ifs do
    if ok then ok <-isTrue c env (eval c env)
   if ok then
    (do
     let kv <-eval k env
     let vv <-holding [kv] (eval v env)
     standAt {k.pos with endLine:=v.pos.endLine,endCol:=v.pos.endCol}
     holding [kv,vv] (dictSet d kv vv))
   again (.compLoop (.DictComp k v [⟨target,iter,ifs,0⟩] scope pos) 0 it (.ref d) env)):=by rfl
section
variable {prog:vQ}{w:World}{A:Around}{R:Result->Shared->Prop}{s:Fp}
theorem lM {k v target iter:Expr}{ifs:Bo}{scope:Scope}{pos:Pos}{it:Value}{d:Addr}{env:Env}(I:Nat->Shared->Prop)
 (turn:∀n s,I n s->wpAny (model prog w) A (pyNext it) (λr s₁=>match r with
  |none=>R (.ok .next) s₁
  |some x=>wpAny (model prog w) A (letOwnedTupleGo target it x) (λ_ s₁=>wpAny (model prog w) A (assign target env x) (λ_ s₂ =>
   wpAny (model prog w) A (forIn ifs true λc r=>if r=true then do let ok <-isTrue c env (eval c env);pure (ForInStep.yield ok) else pure (ForInStep.yield r)) (λok s₃ =>
    if ok=true then wpAny (model prog w) A (eval k env) (λy s₄=>wpAny (model prog w) A (eval v env) (λz s₅ =>
     wpAny (model prog w) A (dictSet d y z) (λ_ s₆=>∃m,m<n/\I m s₆) (λ_ _=>False) s₅) (λ_ _=>False) s₄) (λ_ _=>False) s₃
    else ∃m,m<n/\I m s₃) (λ_ _=>False) s₂) (λ_ _=>False) s₁) (λ_ _=>False) s₁) (λ_ _=>False) s)
 (n:Nat)(h:I n s):
 codeAny (model prog w) A (.compLoop (.DictComp k v [⟨target,iter,ifs,0⟩] scope pos) 0 it (.ref d) env) R s:=by
 refine codeAny_loop rfl I (λn s hI=>?_) n h;show wpAny _ A ((compTurn (.DictComp k v [⟨target,iter,ifs,0⟩] scope pos) 0 it (.ref d) env).onRaise (λx=>do noteFrame x env;theTreesLotGoes x)) _ _ s;refine wpAny_noted ?_;rw[lE];refine wpAny_bind (wpAny_standAt (wpAny_bind (wpAny_mono (turn n s hI) (λr s₁ h₁=>?_) λ_ _ z=>False.elim z)))
 cases r with
 |none=>exact wpAny_pure h₁
 |some x =>
  refine wpAny_bind (wpAny_mono h₁ (λ_ Qh KO=>?_) λ_ _ z=>False.elim z);refine wpAny_bind (wpAny_mono KO (λ_ s₂ h₂=>wpAny_bind (wpAny_mono h₂ (λok s₃ h₃=>?_) λ_ _ z=>False.elim z)) λ_ _ z=>False.elim z)
  cases ok with
  |false=>exact wpAny_pure ⟨rfl,h₃⟩
  |true =>
   refine wpAny_bind (wpAny_bind (wpAny_mono h₃ (λy s₄ h₄=>?_) λ_ _ z=>False.elim z));refine wpAny_bind (wpAny_holding (wpAny_mono h₄ (λz s₅ h₅=>?_) λ_ _ z=>False.elim z));refine wpAny_bind (wpAny_standAt (wpAny_holding (wpAny_mono h₅ (λ_ s₆ h₆=>?_) λ_ _ z=>False.elim z)));exact wpAny_pure ⟨rfl,h₆⟩
theorem eT {k v target iter ifs rest scope pos it acc env}
 (h0:codeAny (model prog w) A (.compLoop (.DictComp k v (⟨target,iter,ifs,0⟩::rest) scope pos) 0 it acc env) R s)
 (h:wpAny (model prog w) A (pyIter it) (λLc s'=>codeAny (model prog w) A (.compLoop (.DictComp k v (⟨target,iter,ifs,0⟩::rest) scope pos) 0 Lc acc env) R s')
  (notedBy (model prog w) A env λx s'=>R (.error x) s') s):
 codeAny (model prog w) A (.compStart (.DictComp k v (⟨target,iter,ifs,0⟩::rest) scope pos) 0 it acc env) R s:=by
 refine codeAny_of_tree ?_;show wpAny _ _ ((compStart (.DictComp k v (⟨target,iter,ifs,0⟩::rest) scope pos) 0 it acc env).onRaise (λx=>do noteFrame x env;standAt theWindowsPlace)) _ _ s;refine wpAny_notedAt ?_;unfold compStart;show wpAny _ _ (ask>>=_) _ _ s;refine wpAny_bind (wpAny_askSetting (wpAny_ite ?_))
 split
 ·first
   |exact wpAny_bind (wpAny_pure (wpAny_pure (And.intro rfl h0)))
   |exact wpAny_pure (And.intro rfl h0)
 ·first
   |exact wpAny_bind (wpAny_rule (wpAny_bind (wpAny_standAt (wpAny_bind (wpAny_mono h (λLc s' h'=>wpAny_pure (And.intro rfl h')) λ_ _ x=>x)))))
   |(refine wpAny_bind (wpAny_rule ?_);show wpAny _ _ (standAt iter.pos>>=_) _ _ s;exact wpAny_bind (wpAny_standAt (wpAny_bind (wpAny_mono h (λLc s' h'=>wpAny_pure (And.intro rfl h')) λ_ _ x=>x))))
end
section
variable {X:Cx}{pins:List (Addr×Obj)}{σ:St}{H:Hp}{s:Fp}
theorem DM {A:Around}{E:yg}{Q:Unit->Shared->Prop}{a b:Addr}{FF:List (List Key×V)}{ks:List Key}{y:V}{z:Value}(hu:A.units<cLine)(I:Inv X pins σ H s)(e:H a=some (.dT FF))(eb:H b=some (.tup (ks.map kV)))
 (hl:FF.length<sizeLine)(rz:aC y z)(h:∀s',Inv X pins σ (upd H a (.dT (cg FF ks y))) s'->Q () s'):wpAny (model X.prog X.w) A (dictSet a (.ref b) z) Q E s:=by
 obtain⟨z0,hd,xs,rel,dd⟩:=xg I.hok e
 have hz:xs.length<=sizeLine:=by rw[<-Paired.length rel];exact z0
 refine wpAny_dictSet_heap (knd:=tupleKind (aQ X.prog X.w)) (hsz:=hz) hu (dY I.hok eb) dd λh' JI hs=>h _ ?_;obtain⟨qq,es,ep,hq,h2,h3,h4,_,h5⟩:=JI
 have Hw:(cg FF ks y).length<=sizeLine:=by have:=dU FF ks y;omega
 refine jt I (by rw[e];exact True.intro) hs ⟨qq,hq⟩ ⟨Hw,hd,_,(rel.put ks eb rz).keeps λc ys ec=>?_,qq,es,ep,hq,h2,h3,h4,h5⟩;rw[ai (i7 ec e (λz=>nomatch z))];exact ec
end
section
variable {X:Cx}{tg iter ke ve:Expr}{ifs:Bo}{scope osc:Scope}{pos:Pos}{N:wk}{nl:Nat}{js:List Nat}
noncomputable def xi (J:It)(g:TG)(tt:TT)(tk tv:TE)(D:Addr)(W:Nat->Nat->St->Hp->Prop)(Fin:Hp->Prop):Prop :=
 ∀i m σ' H',W i m σ' H'->((J.stop i H'/\Fin H') \/
  (J.go i H'/\∀x H2,J.yld i H' x H2->g x σ' H2 λσ3 H3=>tt σ3 H3 λb H4 =>
   if b=true then tk σ3 H4 λy H5=>tv σ3 H5 λz H6=>∃p ks FF,y=.ref p/\H6 p=some (.tup (ks.map kV))/\H6 D=some (.dT FF)/\FF.length<sizeLine/\∃m',m'<m/\W (i+1) m' σ3 (upd H6 D (.dT (cg FF ks z)))
   else ∃m',m'<m/\W (i+1) m' σ3 H4))
theorem pj {pins:List (Addr×Obj)}{σ:St}{H:Hp}{s:Fp}{J:It}{it:Addr}{fp:List Addr}{tn:Nat->Heap->Prop}{g:TG}{tt:TT}{tk tv:TE}{Fin:Addr->Hp->Prop}
 {E:yg}{RR:Value->Addr->Result->Shared->Prop}
 (S:Ew X N nl js osc scope)(hc:X.calm=true)(hu:X.A.units<cLine)(hg:∀C fp s H,PG (bD X N scope C fp s H) tg g)(ht:∀C fp s H,yo (bD X N scope C fp s H) ifs tt)(hk:∀C fp s H,PE (bD X N scope C fp s H) ke tk)(hv:∀C fp s H,PE (bD X N scope C fp s H) ve tv)
 (I:Inv X pins σ H s)(T:Turn X.prog X.w X.K tg J fp it tn)(st:tn 0 s.heap)(f:∀b∈fp,cf X pins H b)
 (w0:∀D,H D=none->∃W:Nat->Nat->St->Hp->Prop,(∃m,W 0 m (σC nl js σ) (upd H D (.dT [])))/\xi J g tt tk tv D W (Fin D))
 (Mi:∀(D C:Addr)(H':Hp)(s':Fp)(m:FA),Inv X pins σ H' s'->s'.heap.Ns C m->cf X pins H' C->Fin D H'->RR (.ref D) C (.ok .next) s'):
 wpAny (model X.prog X.w) X.A newDict (λacc s₃=>wpAny (model X.prog X.w) X.A (newFunctionEnv scope X.env.globals (cZ scope.names X.env) [] X.env.qual none .none (some X.env)) (λHj s₄ =>
  codeAny (model X.prog X.w) X.A (.compStart (.DictComp ke ve [⟨tg,iter,ifs,0⟩] scope pos) 0 (.ref it) acc {Hj with scope:=relabel scope X.env}) (RR acc Hj.locals) s₄) E s₃) E s:=by
 have Ie:∀b∈fp,b<s.heap.objs.size:=λb hb=>by
  obtain⟨o,e,_⟩:=T.obj 0 _ st b hb;exact Heap.lt_size e
 have hn:=I.hok.fresh (Nat.le_refl s.heap.objs.size);have I1:=I.laid (a:=s.heap.objs.size) (o:=.dT []) (h':=s.heap.push {cls:=.type "dict",data:=.dict #[]}) (t':=s.toks) (λ_ _ q=>Heap.get?_push_of_some _ q) (Nat.le_refl _) (oN s.heap I.big);obtain⟨W,w0,hW⟩:=w0 _ hn;unfold newDict;refine wpAny_newObj_type (wpAny_newFunctionEnv S.cell (by intro y hy;simp at hy) (λh₁ Gy Gm=>?_) S.kind);dsimp only at Gy Gm |-;generalize Ig:s.heap.push {cls:=.type "dict",data:=.dict #[]}=H2 at Gy Gm I1 |-
 have hC:H2.objs.size=s.heap.objs.size+1:=by rw[<-Ig,Heap.size_push]
 have HA:s.heap.objs.size<=H2.objs.size:=by rw[hC];exact Nat.le_succ _
 have f1:∀b∈fp,cf X pins (upd H s.heap.objs.size (.dT [])) b:=λb hb=>by
  obtain⟨q1,q2⟩:=f b hb;exact⟨by rw[ai (Nat.ne_of_lt (Ie b hb))];exact q1,q2⟩
 have Q3:∀b o,s.heap.get? b=some o->H2.get? b=some o:=λb o e=>Ig▸Heap.get?_push_of_some _ e;have old:∀b o,H2.get? b=some o->h₁.get? b=some o:=λb o e=>Gm.extBut b o (Nat.ne_of_lt (Heap.lt_size e)) (Heap.get?_push_of_some _ e);have Mo:tn 0 H2:=T.keep _ _ _ st λb _ o e=>Q3 b o e
 have Ge:∀y∈scope.names,y.2=.free->∃c,X.env.cells.lookup y.1=some c:=λy hy hf=>by
  have z:=S.free y hy hf;rw[<-S.out] at z;exact I.ok.has y.1 z
 have sub:∀x c,(cZ scope.names X.env).lookup x=some c->X.env.cells.lookup x=some c:=λx c e=>iq Ge e
 have Jp:∀b∈fp,b∉cW X.stack:=λb hb z=>by
  rcases List.mem_cons.mp (I.aaE b z) with q|q
  ·exact(f b hb).2.1 q
  ·exact(f b hb).2.2.1 q
 have MN:∀b∈fp,b<H2.objs.size:=λb hb=>Nat.lt_of_lt_of_le (Ie b hb) HA
 have Iw:∀{H':Hp},(∀b∈fp,H' b=none)->∀b∈fp,cf (bD X N scope H2.objs.size fp {s with heap:=H2} (upd H s.heap.objs.size (.dT []))) [] H' b:=λ{H'} hn b hb =>
  ⟨hn b hb,Nat.ne_of_lt (MN b hb),Jp b hb,.inl hb,λx c e=>(f b hb).2.2.2.2.1 x c (sub x c e),λp hp=>absurd (show p∈([]:List (Addr×Obj)) from hp) (by simp)⟩
 have loop:∀s₃:Shared,s₃={s with heap:=h₁,toks:=s.toks+([]:List (Str×Value)).length} →
  codeAny (model X.prog X.w) X.A (.compLoop (.DictComp ke ve [⟨tg,iter,ifs,0⟩] scope pos) 0 (.ref it) (.ref s.heap.objs.size) (compEnvC scope (cZ scope.names X.env) H2.objs.size X.env))
   (RR (.ref s.heap.objs.size) H2.objs.size) s₃:=by
  rintro s₃ rfl;obtain⟨m0,w0⟩:=w0
  have I0:Inv (bD X N scope H2.objs.size fp {s with heap:=H2} (upd H s.heap.objs.size (.dT []))) [] (σC nl js σ) (upd H s.heap.objs.size (.dT [])) {s with heap:=h₁,toks:=s.toks+([]:List (Str×Value)).length}:=
   iZ (s:={s with heap:=H2}) S I1 f1 MN (Nat.le_refl _) old Gy
  refine lM (λn s'=>∃i σ' H',Inv (bD X N scope H2.objs.size fp {s with heap:=H2} (upd H s.heap.objs.size (.dT []))) [] σ' H' s'/\tn i s'.heap/\(∀b∈fp,H' b=none)/\W i n σ' H') ?_ m0
   ⟨0,σC nl js σ,_,I0,T.keep _ _ _ Mo λb _ o e=>old b o e,λb hb=>(f1 b hb).1,w0⟩
  rintro n s' ⟨i,σ',H',I',Gj,JK,w'⟩
  rcases hW i n σ' H' w' with⟨stop,fin⟩|⟨go,step⟩
  ·refine wpAny_mono (T.done (bD X N scope H2.objs.size fp {s with heap:=H2} (upd H s.heap.objs.size (.dT []))) rfl rfl rfl hc i _ s' σ' H' (λ_ _=>False) I' (Iw JK) Gj stop) (λr s1 z'=>?_) λ_ _ z=>z;obtain⟨hr,I2⟩:=z';subst hr;have I3:Inv X pins σ H' s1:=I1.abp I2.os I2.base I2.hok I2.bare λb hb=>⟨(f1 b hb).2.2.2.1,(f1 b hb).2.1,(f1 b hb).2.2.2.2.1,(f1 b hb).2.2.2.2.2⟩;obtain⟨mm,JL,_⟩:=I2.loc;exact Mi _ _ H' s1 mm I3 JL (I1.aa4 (Nat.le_refl _) I2.free) fin
  ·refine wpAny_mono (T.item (bD X N scope H2.objs.size fp {s with heap:=H2} (upd H s.heap.objs.size (.dT []))) rfl rfl rfl hc i _ s' σ' H' (λ_ _=>False) I' (Iw JK) Gj go) (λr s1 z'=>?_) λ_ _ z=>z;obtain⟨u,hr,h4⟩:=z';subst hr;refine wpAny_mono h4 (λ_ s2 z'=>?_) λ_ _ z=>z;obtain⟨x,JM,I2,r2,y2,Gv,Ml⟩:=z';have Mm:=I2.pinned (Iw Ml) (T.obj _ _ Gv);refine wpAny_mono (hg _ _ _ _ _ s2 σ' JM x u _ Mm r2 (step x JM y2)) (λ_ s3 z'=>?_) λ_ _ z=>z;obtain⟨σ3,H3,I3,q3⟩:=z';refine wpAny_mono (ht _ _ _ _ _ s3 σ3 H3 _ I3 q3) (λok s4 z'=>?_) λ_ _ z=>z;obtain⟨H4,I4,q4⟩:=z'
   have back:∀{s5:Fp}{H5:Hp},Inv (bD X N scope H2.objs.size fp {s with heap:=H2} (upd H s.heap.objs.size (.dT []))) ([]++cU fp s2.heap) σ3 H5 s5->tn (i+1) s5.heap/\∀b∈fp,H5 b=none:=λ{s5 H5} I5 =>
    ⟨T.keep _ _ _ Gv λb hb o e=>(I5.pin (b,o) (List.mem_append_right _ (List.mem_append_right _ (bK hb e)))).1,λb hb=>by
     obtain⟨o,e,d⟩:=T.obj _ _ Gv b hb
     exact(I5.pin (b,o) (List.mem_append_right _ (List.mem_append_right _ (bK hb e)))).2.1⟩
   cases ok with
   |false =>
    rw[if_neg Bool.false_ne_true] at q4 |-;obtain⟨m',hm,w4⟩:=q4;exact⟨m',hm,i+1,σ3,H4,I4.aaA,(back I4).1,(back I4).2,w4⟩
   |true =>
    rw[if_pos rfl] at q4 |-;refine wpAny_mono (hk _ _ _ _ _ s4 σ3 H4 _ I4 q4) (λv s5 z'=>?_) λ_ _ z=>z;obtain⟨y,H5,I5,r5,q5⟩:=z';refine wpAny_mono (hv _ _ _ _ _ s5 σ3 H5 _ I5 q5) (λv2 s6 z'=>?_) λ_ _ z=>z;obtain⟨z,H6,I6,r6,p,ks,FF,ey,ep,eD,hl,m',hm,w6⟩:=z';subst ey
    cases(show v=Value.ref p from r5)
    exact DM (X:=bD X N scope H2.objs.size fp {s with heap:=H2} (upd H s.heap.objs.size (.dT []))) hu I6 eD ep hl r6 λs7 I7=>⟨m',hm,i+1,σ3,_,I7.aaA,(back I7).1,(back I7).2,w6⟩
 exact eT (loop _ rfl) (T.self X.A 0 _ _ _ (T.keep _ _ _ Mo λb _ o e=>old b o e) (loop _ rfl))
noncomputable def Be (wi:TI)(g:TG)(tt:TT)(tk tv:TE)(nl:Nat)(js:List Nat):TE:=λσ H Q=>wi σ H λJ H1=>∀D,H1 D=none →
 ∃W:Nat->Nat->St->Hp->Prop,(∃m,W 0 m (σC nl js σ) (upd H1 D (.dT [])))/\xi J g tt tk tv D W λH'=>Q (.ref D) H'
theorem yD {wi:TI}{g:TG}{tt:TT}{tk tv:TE}(hu:X.A.units<cLine)(S:Ew X N nl js osc scope)(hc:X.calm=true)(hi:PI X tg iter wi)(hg:∀C fp s H,PG (bD X N scope C fp s H) tg g)(ht:∀C fp s H,yo (bD X N scope C fp s H) ifs tt)
 (hk:∀C fp s H,PE (bD X N scope C fp s H) ke tk)(hv:∀C fp s H,PE (bD X N scope C fp s H) ve tv)(hs:∀x,foldedSetIterable iter X.env x=pure x:=by intro _;rfl):
 PE X (.DictComp ke ve [⟨tg,iter,ifs,0⟩] scope pos) (Be wi g tt tk tv nl js):=by
 intro pins s σ H Q I h;show wpAny _ X.A (comprehension (.DictComp ke ve [⟨tg,iter,ifs,0⟩] scope pos) scope X.env _ newDict false (eval iter X.env)) _ _ s;refine wpAny_comprehension_free (use:=none) rfl hs (eX S I) S.kind S.names (bp (hi pins s σ H _ I h) λv s1 h1=>bp h1 λKG s2 h2=>?_);obtain⟨it,fp,tn,J,H2,e,I2,T,Gv,f2,w0⟩:=h2;subst e;refine pj (Fin:=λD H'=>Q (.ref D) H') (RR:=λacc C=>compPost (model X.prog X.w) X.A X.xe none (EP X pins σ Q) acc C) S hc hu hg ht hk hv I2 T Gv f2 w0 ?_;intro D C H' s' m I3 hn fC fin;exact⟨m,hn,λh' sb=>⟨.ref D,_,b9 I3 fC sb,rfl,fin⟩⟩
end
end L2
namespace J8
open PySem PyProof.Rows
theorem og:typeLookup (.type "list") "keys"=pure none:=by rw[typeLookup_type,builtinLookup_eq_fast];kernel_rfl
theorem lY:entryFor table "dict.update.loop"=some Builtin.«dict.update.loop»:=entryFor_of_tree (by kernel_rfl)
theorem gr:plainId "dict.update.loop"=true:=by decide +kernel
section
variable {prog:vQ}{w:World}{A:Around}{E:yg}{s:Fp}
theorem vA {a:Addr}{o:Obj}{xs:Cm}{k:Nat}{Q:Option Value->Shared->Prop}(hx:s.heap.get? a=some o)(hc:o.cls=.type "list")(MO:o.data=.seq xs k)(hd:o.dict=none)(hA:A.handled=none)
 (h:∀h' tk,(∀b o,s.heap.get? b=some o->h'.get? b=some o)->Q none {s with heap:=h',toks:=tk}):wpAny (model prog w) A (getAttr? (.ref a) "keys") Q E s:=by
 obtain⟨c,dct,dat,sl⟩:=o;simp only at hc MO hd;subst hc MO hd;obtain⟨hp,g,d,tk,os⟩:=s;have hT:∀HF,(⟨hp,g,d,HF,os⟩:Fp).TypeIs (.ref a) "list":=λ_=>⟨_,hx,rfl⟩;have f1:=sub_AttributeError;have f3:=F.slot_list_getattribute.lookup;have f4:=F.slot_list_getattribute.bind (.ref a);have f5:=am_list_getattr_none;unfold getAttr? getAttrBy? getAttrBy
 repeat (any_goals (first|assumption|exact hT _|((with_reducible show wpAny _ _ (call (Value.builtin "list.__getattribute__") _ _) _ _ _);refine call_meets F.slot_list_getattribute (hT _) am_entry_list_getattribute (F.args_list_getattribute_2 _ _) (meets_getattribute_miss_list a xs k sl "keys" _ og (by decide +kernel) (by size_fits)) ⟨hx,hA,λh' HF e KD=>?_⟩)|wp_step))
 obtain⟨t',u',he⟩:=KD.there;show wpAny _ _ (getattributeRaised _ _ _ _ _ _ _) _ _ _;unfold getattributeRaised
 repeat (any_goals (first|assumption|wp_step))
 exact h h' HF KD.keeps
end
end J8
namespace L2
open PySem PySem.Spec PyProof.Rows
noncomputable def qZ (H:Hp)(x:V)(kv:List Key×V):Prop:=∃p b,x=.ref p/\H p=some (.tup [.ref b,kv.2])/\H b=some (.tup (kv.1.map kV))
noncomputable def d7 (FF:List (List Key×V)):List (List Key×V):=FF.foldl (λd kv=>cg d kv.1 kv.2) []
theorem gh (FF:List (List Key×V))(kv:List Key×V):d7 (FF++[kv])=cg (d7 FF) kv.1 kv.2:=by
 unfold d7;rw[List.foldl_append];rfl
theorem gR:∀(n:Nat)(FF:List (List Key×V)),FF.length=n->(d7 FF).length<=n
 |0,FF,h=>by
  have:FF=[]:=List.length_eq_zero_iff.mp h;subst this;exact Nat.le_refl _
 |n+1,FF,h=>by
  obtain⟨Ga,t,rfl⟩:∃Ga t,FF=Ga++[t]:=by
   have FX:FF≠[]:=by intro z;rw[z] at h;cases h
   exact⟨FF.dropLast,FF.getLast FX,(List.dropLast_concat_getLast FX).symm⟩
  have hl:Ga.length=n:=by simpa using h
  rw[gh];have:=gR n Ga hl;have:=dU (d7 Ga) t.1 t.2;omega
noncomputable def yC (P:vQ)(w:World)(h:Heap)(D:Addr)(zs:List (List Key×Addr×Value)):Prop :=
 ∃o es ep,h.get? D=some o/\o.ExactDict/\o.data=.dict es ep/\es.toList=zs.map (entryOfKey (tupleKind (aQ P w)))/\(zs.map (·.1)).Nodup
theorem yC.of {P:vQ}{w:World}{H:Hp}{h:Heap}{D:Addr}{FF:List (List Key×V)}{zs:List (List Key×Addr×Value)}(ok:dM P w H h)(r:yC P w h D zs)(k:KT H FF zs):h.DictOfH (tupleKind (aQ P w)) D zs:=by
 obtain⟨o,es,ep,h1,h2,h3,h4,h5⟩:=r;refine⟨o,es,ep,h1,h2,h3,h4,λx hx=>?_,h5⟩
 have all:∀{l:List (List Key×V)}{m:List (List Key×Addr×Value)},KT H l m->∀x∈m,(tupleKind (aQ P w)).is h x.1 x.2.1:=by
  intro l m q
  induction q with
  |nil=>intro x hx;exact nomatch hx
  |@cons p q ps qs hq t ih =>
   intro x hx
   rcases List.mem_cons.mp hx with e|hx
   ·subst e;exact dY ok (by rw[<-hq.1];exact hq.2.1)
   ·exact ih x hx
 exact all k x hx
section
variable {X:Cx}{pins:List (Addr×Obj)}{σ:St}{H:Hp}{s:Fp}{A:Around}{R:Result->Shared->Prop}{l It D:Addr}{xs:List V}{FF:List (List Key×V)}
theorem xC (I:Inv X pins σ H s)(hh:A.handled=none)(hu:A.units+1<cLine)(hl:aY X.K H l xs)(hp:Paired (qZ H) xs FF)(hz:FF.length<=sizeLine)(hD:s.heap.objs.size<=D)(hI:s.heap.objs.size<=It)(nD:D≠It):
 ∀(k i:Nat)(t:Tok)(h:Heap)(tk:Nat)(zs:List (List Key×Addr×Value)),xs.length-i=k->i<=xs.length->(∀b o,s.heap.get? b=some o->h.get? b=some o)->h.IsListIter It l i->yC X.prog X.w h D zs->KT H (d7 (FF.take i)) zs →
  (∀(h':Heap) HF Pg,(∀b o,s.heap.get? b=some o->h'.get? b=some o)->yC X.prog X.w h' D Pg->KT H (d7 FF) Pg->R (.ok (.ret .none)) {s with heap:=h',toks:=HF}) →
  codeAny (model X.prog X.w) A (.builtin "dict.update.loop" ⟨[.ref D,.ref It,.int i t,.none],[]⟩) R {s with heap:=h,toks:=tk}:=by
 have hlen:=hp.length;obtain⟨its,rv,pl,_⟩:=I.list hl;have UE:its.length=xs.length:=rv.length.symm
 have lt:l<s.heap.objs.size:=by
  obtain⟨o,n,e,_⟩:=pl;exact Heap.lt_size e
 have nI:l≠It:=Nat.ne_of_lt (Nat.lt_of_lt_of_le lt hI);have W:=Walks.list (prog:=X.prog) (w:=X.w) (A:=A.in1) (by exact hh) It l nI its.toArray;have UG:∀h:Heap,(∀b o,s.heap.get? b=some o->h.get? b=some o)->h.IsList l its.toArray:=λh k=>pl.isList.at λo e=>k l o e;intro k
 induction k with
 |zero =>
  intro i t h tk zs hk hi kp hit rd kt q
  have ei:i=xs.length:=by omega
  subst ei;refine codeAny_builtin J8.lY ?_;rw[Around.under_plainId J8.gr _];refine wpAny_bind (m:=pyNext (.ref It)) ?_;refine W.done _ _ _ ⟨by rw[List.size_toArray,UE];exact hit,UG h kp⟩ λh' HF hs=>?_;rw[hlen,List.take_length] at kt;refine wpAny_bind (wpAny_pure (wpAny_pure (q h' HF zs (λb o e=>hs b o ?_ (kp b o e)) ?_ kt)))
  ·simp only[List.mem_singleton];exact Nat.ne_of_lt (Nat.lt_of_lt_of_le (Heap.lt_size e) hI)
  ·obtain⟨o,es,ep,h1,h2⟩:=rd;exact⟨o,es,ep,hs D o (by simpa using nD) h1,h2⟩
 |succ k ih =>
  intro i t h tk zs hk hi kp hit rd kt q
  have FO:i<xs.length:=by omega
  refine codeAny_builtin J8.lY ?_;rw[Around.under_plainId J8.gr _];refine wpAny_bind (m:=pyNext (.ref It)) ?_;refine W.item i _ _ _ (by rw[List.size_toArray,UE];exact FO) ⟨hit,UG h kp⟩ λv h' HF hv st hs=>?_;obtain⟨kv,ek,p,b,ex,IA,hb⟩:=eV hp (List.getElem?_eq_getElem FO)
  have UH:aC xs[i] v:=by
   obtain⟨u,QD,ru⟩:=rv.get (List.getElem?_eq_getElem FO)
   have:u=v:=by
    have hv:its[i]?=some v:=by simpa using hv
    rw[QD] at hv;exact Option.some.inj hv
   rw[<-this];exact ru
  rw[ex] at UH
  cases(show v=Value.ref p from UH)
  have Ph:∀b o,s.heap.get? b=some o->h'.get? b=some o:=λb o e=>hs b o (by simp only[List.mem_singleton];exact Nat.ne_of_lt (Nat.lt_of_lt_of_le (Heap.lt_size e) hI)) (kp b o e);have I1:Inv X pins σ H {s with heap:=h',toks:=HF}:=I.kept Ph;obtain⟨_,FK,GV,op,UI,Xn,np,UJ⟩:=(show ba X.prog X.w H h' p (.tup [.ref b,kv.2]) from I1.hok p _ IA)
  obtain⟨v2,rfl,rk⟩:∃v2,FK=[.ref b,v2]/\aC kv.2 v2:=by
   cases GV with
   |cons r1 r2 =>
    cases r2 with
    |cons r3 r4 =>
     cases r4
     exact⟨_,by rw[show _=Value.ref b from r1],r3⟩
  have Xo:yC X.prog X.w h' D zs:=by
   obtain⟨o,es,ep,h1,h2⟩:=rd;exact⟨o,es,ep,hs D o (by simpa using nD) h1,h2⟩
  refine wpAny_bind (m:=holding _ _) (wpAny_holding (wpAny_bind (wpAny_tryCatch ?_)));unfold Builtin.Dict.pairItems;refine wpAny_bind (wpAny_typeOf (s:={s with heap:=h',toks:=HF}) (T:="tuple") ⟨op,UI,Xn⟩ ?_);rw[if_pos (by decide)];refine wpAny_bind (wpAny_seqItems (s:={s with heap:=h',toks:=HF}) UI UJ (wpAny_pure ?_));show wpAny _ _ (holding [.ref b,v2] (dictSet D (.ref b) v2)) _ _ _
  have MM:zs.length<=sizeLine:=by
   rw[<-Paired.length kt];exact Nat.le_trans (gR _ _ rfl) (Nat.le_trans (by rw[List.length_take];exact Nat.min_le_right _ _) hz)
  refine wpAny_holding (wpAny_dictSet_heap (s:={s with heap:=h',toks:=HF}) (knd:=tupleKind (aQ X.prog X.w)) (hsz:=MM) (show A.units+1<cLine from hu) (dY I1.hok hb) (Xo.of I1.hok kt) λh2 JI Mb=>?_);have Xp:∀b o,s.heap.get? b=some o->h2.get? b=some o:=λb o e=>(Mb.2 b (Nat.ne_of_lt (Nat.lt_of_lt_of_le (Heap.lt_size e) hD))).trans (Ph b o e)
  have Gk:FF.take (i+1)=FF.take i++[kv]:=by rw[List.take_add_one,ek];rfl
  have UK:=kt.put kv.1 hb rk;rw[<-gh,<-Gk] at UK;obtain⟨qq,es,ep,hq,JU,h3,h4,_,h5⟩:=JI;have Gv:h2.IsListIter It l (i+1):=st.1.at λo e=>(Mb.2 It (Ne.symm nD)).trans e;refine wpAny_pure ⟨plainId_quiet J8.gr _,?_⟩;have:=ih (i+1) 0 h2 (HF+(tupleKind (aQ X.prog X.w)).draws kv.1) _ (by omega) (by omega) Xp Gv ⟨qq,es,ep,hq,JU,h3,h4,h5⟩ UK q;simpa[rawInt] using this
end
section
variable {X:Cx}
theorem qK {k:Nat}(hr:om k X.A)(hc:X.calm=true):bZ X (.type "dict") (λxs H Q=>∃l ys FF,xs=[.ref l]/\aY X.K H l ys/\Paired (qZ H) ys FF/\FF.length<=sizeLine/\∀D,H D=none->Q (.ref D) (upd H D (.dT (d7 FF)))):=by
 intro pins s σ H vs us Q I r h;obtain⟨l,ys,FF,rfl,hl,hp,hz,q⟩:=h;obtain⟨u,rfl,ru⟩:=fE r
 cases(show u=Value.ref l from ru)
 have hu:=hr.units;have hA:X.A.handled=none:=I.ok.hd hc;obtain⟨its,rv,pl,_⟩:=I.list hl;obtain⟨ol,n,K1,Jw,K2,HG⟩:=pl;have UL:=I.hok.fresh (Nat.le_refl s.heap.objs.size);refine callType_codes (Q₁:=λobj s₁=>obj=.ref s.heap.objs.size/\s₁={s with heap:=s.heap.push {cls:=.type "dict",data:=.dict #[]} }) PySem.F.kt_called_dict (PySem.F.kt_typeCall_dict_1 _) PySem.F.entry_dict_init (kt_code_dict_new _ ⟨rfl,rfl⟩) ?_;rintro obj s₁ ⟨rfl,rfl⟩;have oD:(s.heap.push {cls:=.type "dict",data:=.dict #[]}).get? s.heap.objs.size=some {cls:=.type "dict",data:=.dict #[]}:=Heap.get?_push_size _ rfl;generalize Ig:s.heap.push {cls:=.type "dict",data:=.dict #[]}=H2 at oD |-;have k2:∀b o,s.heap.get? b=some o->H2.get? b=some o:=λb o e=>Ig▸Heap.get?_push_of_some _ e;have tD:Shared.TypeIs {s with heap:=H2} (.ref s.heap.objs.size) "dict":=⟨_,oD,rfl⟩;refine⟨tD,PySem.F.args_dict_init_2 _ _,?_⟩;unfold Builtin.«dict.__init__»;refine wpAny_bind ?_;unfold Builtin.Dict.selfAndRest;refine wpAny_bind (wpAny_notOrdered_dict tD ?_);show wpAny _ _ (pure (s.heap.objs.size,[Value.ref l])) _ _ _;refine wpAny_pure ?_;show wpAny _ _ (Builtin.Dict.updateFrom "dict.__init__" s.heap.objs.size (.ref l) [] .none) _ _ _;unfold Builtin.Dict.updateFrom;refine wpAny_bind (wpAny_typeOf (s:={s with heap:=H2}) (T:="list") ⟨ol,k2 _ _ K1,Jw⟩ ?_);rw[if_pos (by decide)];refine wpAny_bind (J8.vA (s:={s with heap:=H2}) (k2 _ _ K1) Jw HG K2 hA λh3 UM k3=>?_);rw[if_pos (by decide)];refine wpAny_bind (wpAny_rule (wpAny_bind (wpAny_pyIter_list (s:={s with heap:=h3,toks:=UM}) (items:=its.toArray) ⟨ol,k3 _ _ (k2 _ _ K1),Jw,n,HG⟩ (wpAny_pure ?_))));have k4:∀b o,s.heap.get? b=some o->h3.get? b=some o:=λb o e=>k3 _ _ (k2 _ _ e);have D7:s.heap.objs.size<h3.objs.size:=Heap.lt_size (k3 _ _ oD);have k5:∀b o,h3.get? b=some o->(h3.push {cls:=.type "list_iterator",data:=.fields #[.ref l,.int 0 0]}).get? b=some o:=λb o e=>Heap.get?_push_of_some _ e;refine⟨plainId_quiet J8.gr _,?_⟩;have iter:(h3.push {cls:=.type "list_iterator",data:=.fields #[.ref l,.int 0 0]}).IsListIter h3.objs.size l 0:=⟨_,Heap.get?_push_size _ rfl,rfl,rfl⟩;refine xC (It:=h3.objs.size) (D:=s.heap.objs.size) (zs:=[]) I (by show X.A.handled=none;exact hA) (by show X.A.units+1+1<cLine;omega) hl hp hz (Nat.le_refl _) (Nat.le_of_lt D7) (Nat.ne_of_lt D7) _ 0 0 _ UM rfl (Nat.zero_le _) (λb o e=>k5 _ _ (k4 _ _ e)) iter ⟨_,#[],0,k5 _ _ (k3 _ _ oD),⟨rfl,rfl,rfl⟩,rfl,rfl,List.nodup_nil⟩ .nil ?_;intro h' HF Pg Ph rd kt;refine⟨rfl,.ref s.heap.objs.size,_,I.laid (a:=s.heap.objs.size) (o:=.dT (d7 FF)) (h':=h') (t':=HF) Ph (Nat.le_refl _) ⟨Nat.le_trans (gR _ _ rfl) hz,beq_eq_false_iff_ne.mpr (Ne.symm (Nat.ne_of_lt I.big)),Pg,kt.keeps λb ys e=>?_,rd⟩,rfl,q _ UL⟩;rw[ai (av e UL)];exact e
end
end L2
namespace Pj
open PySem PySem.Calls PyProof.Rows PySem.Spec
variable {a b:Addr}{r:Bool}
section
variable {prog:vQ}{w:World}{K:Type} [DecidableEq K]{knd:HeapKind prog w K}{A:Around}{E:yg}{s:Fp}
inductive Dh (A:Around)(s:Fp)(kb:List (K×Addr×Value)):List (K×Addr×Value)->Bool->Prop
 |nil:Dh A s kb [] true
 |miss {k:K}{v:Addr×Value}{r:List (K×Addr×Value)}:atKey kb k=none->Dh A s kb ((k,v):: r) false
 |hit {k:K}{v y:Addr×Value}{r:List (K×Addr×Value)}{e b:Bool}:atKey kb k=some y->SeqAt.EqAt A s v.2 y.2 e->Dh A s kb r b->Dh A s kb ((k,v):: r) (e&&b)
theorem Dh.inv {kb:List (K×Addr×Value)}{k:K}{v:Addr×Value}{r:List (K×Addr×Value)}{b:Bool}(h:Dh A s kb ((k,v):: r) b):
 (atKey kb k=none/\b=false)\/∃y e b',atKey kb k=some y/\SeqAt.EqAt A s v.2 y.2 e/\Dh A s kb r b'/\b=(e&&b'):=by
 cases h with
 |miss hn=>exact .inl ⟨hn,rfl⟩
 |hit hy he hr=>exact .inr ⟨_,_,_,hy,he,hr,rfl⟩
theorem samePairs {nm:String}{ka kb:List (K×Addr×Value)}{Q:Bool->Shared->Prop}(ha:(a==sysModules)=false)(hb:(b==sysModules)=false)
 (da:s.heap.DictOfH knd a ka)(db:s.heap.DictOfH knd b kb)(hu:knd.room A)(hits:ka.length=kb.length->Dh A s kb ka r)(h:Q (ka.length==kb.length&&r) s):
 wpAny (model prog w) A (Builtin.Dict.samePairs nm a b) Q E s:=by
 obtain⟨oa,es,ep,Pk,_,Jg,UN,Xq,hna⟩:=da;obtain⟨ob,Im,JG,Mq,_,GY,Q4,Xr,UO⟩:=db;have Pl:ka.length=es.size:=(size_of_entries UN).symm;have UP:kb.length=Im.size:=(size_of_entries Q4).symm;rw[Pl,UP] at h;unfold Builtin.Dict.samePairs Builtin.Dict.showsAll;rw[if_neg (show ¬(a==sysModules)=true by rw[ha];exact Bool.false_ne_true),if_neg (show ¬(b==sysModules)=true by rw[hb];exact Bool.false_ne_true)];refine wpAny_bind (wpAny_pure (wpAny_bind (wpAny_pure ?_)));refine wpAny_bind (wpAny_dictEntries Pk Jg ?_);dsimp only;refine wpAny_bind (wpAny_dictEntries Mq GY ?_)
 by_cases hsz:es.size=Im.size
 case neg =>
  rw[if_pos (by simpa using hsz)]
  have O0:(es.size==Im.size)=false:=by simpa using hsz
  rw[O0,Bool.false_and] at h;exact wpAny_bind (wpAny_rule (wpAny_pure h))
 case pos =>
  have h':Q r s:=by simpa[hsz] using h
  have MP:=hits (by rw[Pl,UP];exact hsz);rw[if_neg (by rw[hsz];simp)];refine wpAny_bind (wpAny_dictEpoch Pk Jg ?_);refine wpAny_bind ?_;rw[Std.Legacy.Range.forIn_eq_forIn_range'];simp only[Std.Legacy.Range.size,Nat.sub_zero,Nat.add_sub_cancel,Nat.div_one]
  refine wpAny_forIn_list _
   (λrest q s'=>s'=s/\q=(none,())/\∃i,rest=List.range' i (es.size-i)/\i<=es.size/\Dh A s kb (ka.drop i) r)
   _ ?_ ?_ _ _ ⟨rfl,rfl,0,by simp,Nat.zero_le _,MP⟩
  ·rintro x rest q s' ⟨rfl,rfl,i,hr,hi,Gx⟩
   have FO:i<es.size:=by
    rcases Nat.lt_or_ge i es.size with h|h
    ·exact h
    ·rw[Nat.sub_eq_zero_of_le h] at hr;simp at hr
   obtain⟨rfl,HL⟩:x=i/\rest=List.range' (i+1) (es.size-(i+1)):=by
    have e:es.size-i=(es.size-(i+1))+1:=by omega
    rw[e,List.range'_succ] at hr
    injection hr with h1 h2
    exact⟨h1,h2⟩
   refine wpAny_bind (wpAny_dictEntries Pk Jg ?_)
   have Ld:x<ka.length:=by rw[Pl];exact FO
   obtain⟨k,v,JB⟩:∃k v,ka[x]=(k,v):=⟨_,_,rfl⟩
   have MQ:ka.drop x=(k,v):: ka.drop (x+1):=by rw[<-JB];exact List.drop_eq_getElem_cons Ld
   have hex:es[x]?=some ⟨knd.hash k,.ref v.1,v.2⟩:=by rw[entry_at UN x,List.getElem?_eq_getElem Ld,JB];rfl
   have Pn:knd.is s'.heap k v.1:=Xq (k,v) (by rw[<-JB];exact List.getElem_mem Ld);rw[hex];rw[MQ] at Gx;show wpAny _ _ (holding [Value.ref v.1,v.2] _>>=_) _ _ _;refine wpAny_bind (wpAny_holding (wpAny_bind (wpAny_dictFind_heap hu Pn Mq GY Q4 Xr UO (λGJ=>?_) λj p hj=>?_)))
   ·have hn:atKey kb k=none:=atKey_none_of_get GJ
    rcases Gx.inv with⟨_,er⟩|⟨y,_,_,hy,_⟩
    ·rw[er] at h';refine wpAny_pure ?_;show wpAny _ _ (if(!false)=true then _ else _) _ _ _;rw[if_pos (by decide)];exact wpAny_pure (wpAny_pure h')
    ·rw[hn] at hy;exact nomatch hy
   ·have OW:atKey kb k=some p:=atKey_of_get UO hj;refine wpAny_bind (wpAny_dictEntries Mq GY ?_);rw[entry_at Q4 j,hj]
    rcases Gx.inv with⟨hn,_⟩|⟨y,e,b',hy,he,UQ,er⟩
    ·rw[OW] at hn;exact nomatch hn
    ·have ey:p=y:=Option.some.inj (OW.symm.trans hy);rw[<-ey] at he;refine wpAny_holding (he prog w _ _ ?_)
     cases e with
     |false =>
      rw[er,Bool.false_and] at h';show wpAny _ _ (if(!false)=true then _ else _) _ _ _;rw[if_pos (by decide)];exact wpAny_pure (wpAny_pure h')
     |true =>
      rw[Bool.true_and] at er;rw[<-er] at UQ;show wpAny _ _ (if(!true)=true then _ else _) _ _ _;rw[if_neg (by decide)];refine wpAny_bind (wpAny_dictEpoch Pk Jg ?_);rw[if_neg (by simp)];exact wpAny_pure ⟨rfl,rfl,x+1,HL,FO,UQ⟩
  ·rintro q s' ⟨rfl,rfl,i,hr,hi,Gx⟩
   have Xs:i=es.size:=by
    rcases Nat.lt_or_ge i es.size with h|h
    ·have e:es.size-i=(es.size-(i+1))+1:=by omega
     rw[e,List.range'_succ] at hr;exact nomatch hr
    ·exact Nat.le_antisymm hi h
   refine wpAny_pure ?_;rw[Xs,<-Pl,List.drop_length] at Gx
   cases Gx
   exact h'
theorem Fs {ka kb:List (K×Addr×Value)}{Q:yg}(ha:(a==sysModules)=false)(hb:(b==sysModules)=false)
 (da:s.heap.DictOfH knd a ka)(db:s.heap.DictOfH knd b kb)(hr:knd.room A.in1)(hu:A.units<cLine)(hits:ka.length=kb.length->Dh A.in1 s kb ka r)(h:Q (.bool (ka.length==kb.length&&r)) s):
 wpAny (model prog w) A (compareOp .Eq (.ref a) (.ref b)) Q E s:=by
 refine wpAny_richCompare_same_room (op:=.Eq) da.typeIs db.typeIs PySem.F.slot_dict_eq (wpAny_call_entry PySem.F.slot_dict_eq da.typeIs PySem.F.entry_dict_eq ?_ (PySem.F.args_dict_eq_2 _ _)) hu;show wpAny _ _ (Builtin.Dict.dictSlotArgs "__eq__" ⟨[.ref a,.ref b],[]⟩>>=_) _ _ s;refine wpAny_bind ?_;unfold Builtin.Dict.dictSlotArgs;refine wpAny_bind (wpAny_notOrdered_dict da.typeIs ?_);show wpAny _ _ (pure (Value.ref a,Value.ref b)) _ _ s;refine wpAny_pure ?_;refine wpAny_bind (wpAny_isInstance (T:="dict") db.typeIs PySem.F.sub_dict_dict ?_);simp only[Bool.not_true,Bool.false_eq_true,if_false];refine wpAny_bind (wpAny_pure (wpAny_bind (wpAny_pure ?_)));refine wpAny_bind (samePairs ha hb da db hr hits ?_);refine wpAny_pure ⟨_,rfl,?_,?_⟩
 ·exact λx=>nomatch x
 ·simpa using h
theorem FD {ka kb:List (K×Addr×Value)}{Q:yg}(ha:(a==sysModules)=false)(hb:(b==sysModules)=false)
 (da:s.heap.DictOfH knd a ka)(db:s.heap.DictOfH knd b kb)(hr:knd.room A.in1)(hu:A.units<cLine)(hits:ka.length=kb.length->Dh A.in1 s kb ka r)(h:Q (.bool (!(ka.length==kb.length&&r))) s):
 wpAny (model prog w) A (compareOp .NotEq (.ref a) (.ref b)) Q E s:=by
 refine wpAny_richCompare_same_room (op:=.NotEq) da.typeIs db.typeIs PySem.F.slot_dict_ne (wpAny_call_entry PySem.F.slot_dict_ne da.typeIs PySem.F.entry_dict_ne ?_ (PySem.F.args_dict_ne_2 _ _)) hu;show wpAny _ _ (Builtin.Dict.dictSlotArgs "__ne__" ⟨[.ref a,.ref b],[]⟩>>=_) _ _ s;refine wpAny_bind ?_;unfold Builtin.Dict.dictSlotArgs;refine wpAny_bind (wpAny_notOrdered_dict da.typeIs ?_);show wpAny _ _ (pure (Value.ref a,Value.ref b)) _ _ s;refine wpAny_pure ?_;refine wpAny_bind (wpAny_isInstance (T:="dict") db.typeIs PySem.F.sub_dict_dict ?_);simp only[Bool.not_true,Bool.false_eq_true,if_false];refine wpAny_bind (wpAny_pure (wpAny_bind (wpAny_pure ?_)));refine wpAny_bind (samePairs ha hb da db hr hits ?_);refine wpAny_pure ⟨_,rfl,?_,?_⟩
 ·exact λx=>nomatch x
 ·simpa using h
end
end Pj
namespace L2
open PySem PySem.Spec PyProof.Rows PySem.W
inductive uK (K:Frag)(H:Hp)(kb:List (List Key×V)):List (List Key×V)->Bool->Prop
 |nil:uK K H kb [] true
 |miss {k:List Key}{v:V}{r:List (List Key×V)}:fG kb k=none->uK K H kb ((k,v):: r) false
 |hit {k:List Key}{v y:V}{r:List (List Key×V)}{d e:D}{b:Bool}:fG kb k=some y->aH K H d v->aH K H e y->jn d<=32->uK K H kb r b->uK K H kb ((k,v):: r) (gH d e&&b)
variable {k:Nat}
section
variable {X:Cx}{pins:List (Addr×Obj)}{σ:St}{H:Hp}{s:Fp}
theorem oz (I:Inv X pins σ H s){A:Around}(hu:A.units+32<cLine){kb:List (List Key×V)}{zb:List (List Key×Addr×Value)}(tb:KT H kb zb):
 ∀{ka:List (List Key×V)}{za:List (List Key×Addr×Value)}{r:Bool},KT H ka za->uK X.K H kb ka r->Pj.Dh A s zb za r
 |_,_,_,.nil,h=>by
  cases h
  exact .nil
 |_,_,_,.cons (a:=(k,v)) (b:=(k',p)) q t,h=>by
  obtain⟨e,_,rv⟩:=q;have e:k=k':=e;subst e
  cases h with
  |miss hn=>exact .miss (Option.map_eq_none_iff.mp (dq.none_of (by rw[<-hn];exact tb.val k)))
  |hit hy h1 h2 hd hr =>
   obtain⟨w',hw,GI⟩:=dq.some_of (by rw[<-hy];exact tb.val k);obtain⟨p2,hp,Mc⟩:=Option.map_eq_some_iff.mp hw;refine .hit hp ?_ (oz I hu tb t hr);rw[Mc];exact(eA I 32 A _ _ _ _ _ _ hd hu h1 h2 rv GI).2.1
noncomputable def DF (K:Frag)(neg:Bool):R2:=λx y H Q=>∃a b ka kb r,x=.ref a/\y=.ref b/\Rd H a (.dT ka)/\Rd H b (.dT kb)/\(ka.length=kb.length->uK K H kb ka r)/\Q (.bl ((ka.length==kb.length&&r) != neg)) H
theorem Cr (hr:om k X.A):fu X (compareOp .Eq) (DF X.K false):=by
 intro pins s σ H x y v u Q I rx ry h;obtain⟨a,b,ka,kb,r,rfl,rfl,ha,hb,hh,q⟩:=h
 cases(show v=Value.ref a from rx)
 cases(show u=Value.ref b from ry)
 have hu:=hr.units;obtain⟨_,ma,za,ta,da⟩:=fA I.hok ha;obtain⟨_,mb,zb,tb,db⟩:=fA I.hok hb;have la:=Paired.length ta;have lb:=Paired.length tb;refine Pj.Fs ma mb da db (tupleKind_room_in1 (by omega)) (by omega) (λe=>oz I (show X.A.units+1+32<cLine by omega) tb ta (hh (by rw[la,lb];exact e))) ⟨.bl _,H,I,rfl,?_⟩;rw[<-la,<-lb];simpa using q
theorem Ci (hr:om k X.A):fu X (compareOp .NotEq) (DF X.K true):=by
 intro pins s σ H x y v u Q I rx ry h;obtain⟨a,b,ka,kb,r,rfl,rfl,ha,hb,hh,q⟩:=h
 cases(show v=Value.ref a from rx)
 cases(show u=Value.ref b from ry)
 have hu:=hr.units;obtain⟨_,ma,za,ta,da⟩:=fA I.hok ha;obtain⟨_,mb,zb,tb,db⟩:=fA I.hok hb;have la:=Paired.length ta;have lb:=Paired.length tb;refine Pj.FD ma mb da db (tupleKind_room_in1 (by omega)) (by omega) (λe=>oz I (show X.A.units+1+32<cLine by omega) tb ta (hh (by rw[la,lb];exact e))) ⟨.bl _,H,I,rfl,?_⟩;rw[<-la,<-lb]
 have e1:∀c:Bool,(c != true) = !c:=by intro c;cases c <;> rfl
 rw[e1] at q;exact q
end
mutual
noncomputable def jf (K:Frag)(H:Hp):PyData->V->Prop
 | .none,v=>v=.non
 | .bool b,v=>v=.bl b
 | .int i,v=>v=.int i
 | .str x,v=>v=.str x
 | .list ds,v=>∃a xs,v=.ref a/\aY K H a xs/\fK K H ds xs
 | .tuple ds,v=>∃a xs,v=.ref a/\bf K H a xs/\fK K H ds xs
 | .dict FF,v=>FF=[]/\∃a,v=.ref a/\Rd H a (.dK [])
noncomputable def fK (K:Frag)(H:Hp):List PyData->List V->Prop
 |[],xs=>xs=[]
 |d::ds,xs=>∃y ys,xs=y::ys/\jf K H d y/\fK K H ds ys
end
noncomputable def oj (K:Frag):Prop:=∃o,K.lookup sysModules=some o/\o.cls=.type "dict"
section
variable {X:Cx}{pins:List (Addr×Obj)}{σ:St}{H:Hp}{s:Fp}
theorem Au (I:Inv X pins σ H s)(hS:oj X.K){a:Addr}{o:Obj}(e:s.heap.get? a=some o){T:String}(hc:o.cls=.type T)(hT:T ≠ "dict"):a≠sysModules:=by
 rintro rfl;obtain⟨o',l,c⟩:=hS;have e':=I.kIn _ _ l;rw[e] at e'
 cases e'
 rw[hc] at c
 injection c with c
 exact hT c
mutual
theorem ly (I:Inv X pins σ H s)(hS:oj X.K):∀(d:PyData)(v:V)(u:Value),jf X.K H d v->aC v u->∃as,Reads s.heap u d as/\sysModules∉as
 | .none,v,u,h,r=>by
   unfold jf at h;subst h
   cases(show u=Value.none from r)
   exact⟨_,.none,by simp⟩
 | .bool b,v,u,h,r=>by
   unfold jf at h;subst h
   cases(show u=Value.bool b from r)
   exact⟨_,.bool b,by simp⟩
 | .int i,v,u,h,r=>by
   unfold jf at h;subst h;obtain⟨t,rfl⟩:=(show ∃t,u=Value.int i t from r);exact⟨_,.int i t,by simp⟩
 | .str x,v,u,h,r=>by
   unfold jf at h;subst h;obtain⟨t,rfl⟩:=(show ∃t,u=Value.str x t from r);exact⟨_,.str x t,by simp⟩
 | .list ds,v,u,h,r=>by
   unfold jf at h;obtain⟨a,xs,rfl,hl,hd⟩:=h
   cases(show u=Value.ref a from r)
   obtain⟨its,rv,⟨o,n,e,hc,_,HG⟩,_⟩:=I.list hl;obtain⟨as,ra,na⟩:=fP I hS ds xs its hd rv
   exact⟨_,.list e hc HG (by simpa using ra),by
    have:=Au I hS e hc (by decide);simp only[List.mem_cons,not_or]
    exact⟨Ne.symm this,na⟩⟩
 | .tuple ds,v,u,h,r=>by
   unfold jf at h;obtain⟨a,xs,rfl,hl,hd⟩:=h
   cases(show u=Value.ref a from r)
   obtain⟨its,rv,⟨o,e,hc,n,HG⟩,_⟩:=I.tuple hl;obtain⟨as,ra,na⟩:=fP I hS ds xs its hd rv;exact⟨_,.tuple e hc HG (by simpa using ra),na⟩
 | .dict FF,v,u,h,r=>by
   unfold jf at h;obtain⟨rfl,a,rfl,hl⟩:=h
   cases(show u=Value.ref a from r)
   obtain⟨_,FX,vs,kv,⟨o,es,ep,e,hx,HG,_,pr,_⟩⟩:=i8 I.hok hl
   have hv:vs=[]:=by cases kv;rfl
   subst hv
   have Po:es.toList=[]:=by
    cases hq:es.toList with
    |nil=>rfl
    |cons x l=>rw[hq] at pr;cases pr
   refine⟨[a]++[]++[],.dict e hx.1 HG (by rw[Po];exact .nil) (by rw[Po];exact .nil),?_⟩;simp only[List.append_nil,List.mem_singleton];intro q;rw[q] at FX;simp at FX
theorem fP (I:Inv X pins σ H s)(hS:oj X.K):∀(ds:List PyData)(vs:List V)(us:qw),fK X.K H ds vs->aG vs us->∃as,ReadsAll s.heap us ds as/\sysModules∉as
 |[],vs,us,h,r=>by
  unfold fK at h;subst h
  cases r
  exact⟨_,.nil,by simp⟩
 |d::ds,vs,us,h,r=>by
  unfold fK at h;obtain⟨y,ys,rfl,h1,h2⟩:=h
  cases r with
  |cons r1 r2 =>
   obtain⟨as,ra,na⟩:=ly I hS d y _ h1 r1;obtain⟨bs,rb,nb⟩:=fP I hS ds ys _ h2 r2;exact⟨_,.cons ra rb,by simp only[List.mem_append,not_or];exact⟨na,nb⟩⟩
end
end
mutual
noncomputable def wt:PyData->Nat
 | .none=>4
 | .bool _=>5
 | .int _=>1921
 | .str x=>(reprText x).length
 | .list xs=>yL xs+2
 | .tuple xs=>yL xs+3
 | .dict _=>2
noncomputable def yL:List PyData->Nat
 |[]=>0
 |x::xs=>wt x+2+yL xs
end
theorem i9:∀(ts:wk)(k:Nat)(acc:Str),(textFrom k acc ts).length<=acc.length+(ts.map λt=>t.length+2).sum
 |[],k,acc=>by simp[textFrom]
 |t::ts,k,acc=>by
  unfold textFrom;have h:=i9 ts (k+1) (acc++(if k>0 then ", " else "":String)++t)
  have e:(acc++((if k>0 then ", " else "":String):Str)++t).length<=acc.length+2+t.length:=by
   rw[Str.length_append,Str.length_append]
   have:(((if k>0 then ", " else "":String):Str)).length<=2:=by
    split
    ·decide
    ·decide
   omega
  simp only[List.map_cons,List.sum_cons];omega
theorem ub:∀(ts:wk),(Str.join ", " ts).length<=(ts.map λt=>t.length+2).sum
 |[]=>by
  show(Str.empty).length<=_;simp[Str.empty,Str.length]
 |[t]=>by
  show t.length<=_;simp
 |t::u::ts=>by
  show(t++(", ":String)++Str.join ", " (u::ts)).length<=_;rw[Str.length_append,Str.length_append];have h:=ub (u::ts)
  have e:(((", ":String):Str)).length=2:=by decide
  simp only[List.map_cons,List.sum_cons] at h |-;omega
mutual
theorem jU:∀(d:PyData)(K:Frag)(H:Hp)(v:V),jf K H d v->d.showable=true->d.shown.length<=wt d
 | .none,_,_,_,_,_=>by unfold PyData.shown wt;decide
 | .bool b,_,_,_,_,_=>by unfold PyData.shown wt;cases b <;> decide
 | .int i,_,_,_,_,h=>by
   unfold PyData.showable at h;unfold PyData.shown wt;exact int_text_len_1921 (of_decide_eq_true h)
 | .str x,_,_,_,_,_=>by unfold PyData.shown wt;exact Nat.le_refl _
 | .list xs,K,H,v,r,h=>by
   unfold jf at r;obtain⟨a,vs,_,_,r⟩:=r;unfold PyData.showable at h;unfold PyData.shown wt listText;have e:=i9 (PyData.shownAll xs) 0 (("[":String):Str);have f:=gb xs K H vs r h;rw[Str.length_append]
   have l1:((("[":String):Str)).length=1:=by decide
   have l2:((("]":String):Str)).length=1:=by decide
   omega
 | .tuple xs,K,H,v,r,h=>by
   unfold jf at r;obtain⟨a,vs,_,_,r⟩:=r;unfold PyData.showable at h;unfold PyData.shown wt tupleText;have e:=ub (PyData.shownAll xs);have f:=gb xs K H vs r h;rw[Str.length_append,Str.length_append]
   have l1:((("(":String):Str)).length=1:=by decide
   have l2:((((if(PyData.shownAll xs).length==1 then ",)" else ")":String)):Str)).length<=2:=by
    split
    ·decide
    ·decide
   omega
 | .dict FF,K,H,v,r,h=>by
   unfold jf at r;obtain⟨rfl,_⟩:=r;unfold PyData.shown wt;decide
theorem gb:∀(ds:List PyData)(K:Frag)(H:Hp)(vs:List V),fK K H ds vs->PyData.showableAll ds=true->((PyData.shownAll ds).map λt=>t.length+2).sum<=yL ds
 |[],_,_,_,_,_=>by unfold PyData.shownAll yL;simp
 |d::ds,K,H,vs,r,h=>by
  unfold fK at r;obtain⟨y,ys,_,r1,r2⟩:=r;unfold PyData.showableAll at h;rw[Bool.and_eq_true] at h;unfold PyData.shownAll yL;have a:=jU d K H y r1 h.1;have b:=gb ds K H ys r2 h.2;simp only[List.map_cons,List.sum_cons];omega
end
noncomputable def qY:Key->PyData
 | .inl i=>.int i
 | .inr x=>.str x
noncomputable def vw (K:Frag)(H:Hp)(kv:List Key×V)(d:PyData×PyData):Prop:=d.1=.tuple (kv.1.map qY)/\jf K H d.2 kv.2
theorem jl (K:Frag)(H:Hp):∀ks:List Key,fK K H (ks.map qY) (ks.map kV)
 |[]=>by unfold fK;rfl
 | .inl i::ks=>by
   show fK K H (.int i::ks.map qY) (.int i::ks.map kV);unfold fK;exact⟨_,_,rfl,by unfold jf;rfl,jl K H ks⟩
 | .inr x::ks=>by
   show fK K H (.str x::ks.map qY) (.str x::ks.map kV);unfold fK;exact⟨_,_,rfl,by unfold jf;rfl,jl K H ks⟩
noncomputable def nK:List (PyData×PyData)->Nat
 |[]=>3
 |d::ds=>wt d.1+wt d.2+4+nK ds
theorem jC {K:Frag}{H:Hp}:∀{ks:List (List Key×V)}{ds:List (PyData×PyData)},Paired (λkv d=>vw K H kv d/\∃b,H b=some (.tup (kv.1.map kV))) ks ds->PyData.showableKv ds=true->((PyData.shownKv ds).map (·.length)).sum+2*ds.length+3<=nK ds
 |_,_,.nil,_=>by unfold PyData.shownKv nK;simp
 |_,_,.cons (a:=kv) (b:=(k,v)) ⟨⟨e1,e2⟩,b,hb⟩ t,h=>by
  have e1:k=.tuple (kv.1.map qY):=e1;have e2:jf K H v kv.2:=e2;unfold PyData.showableKv at h;rw[Bool.and_eq_true,Bool.and_eq_true] at h;have ih:=jC t h.2
  have rk:jf K H k (.ref b):=by
   rw[e1];unfold jf;exact⟨b,_,rfl,bf.of hb,jl K H kv.1⟩
  have a:=jU k K H _ rk h.1.1;have c:=jU v K H _ e2 h.1.2;unfold PyData.shownKv nK;simp only[List.map_cons,List.sum_cons,List.length_cons]
  have l:((PyData.shown k++((": ":String):Str))++PyData.shown v).length=(PyData.shown k).length+2+(PyData.shown v).length:=by
   rw[Str.length_append,Str.length_append]
   have:(((": ":String):Str)).length=2:=by decide
   omega
  omega
section
variable {X:Cx}{pins:List (Addr×Obj)}{σ:St}{H:Hp}{s:Fp}
theorem ky (I:Inv X pins σ H s)(hS:oj X.K):∀{ks:List (List Key×V)}{zs:List (List Key×Addr×Value)}{ds:List (PyData×PyData)},KT H ks zs->Paired (vw X.K H) ks ds →
 (∃as bs,ReadsAll s.heap (zs.map λz=>Value.ref z.2.1) (ds.map (·.1)) as/\sysModules∉as/\ReadsAll s.heap (zs.map λz=>z.2.2) (ds.map (·.2)) bs/\sysModules∉bs)/\Paired (λkv d=>vw X.K H kv d/\∃b,H b=some (.tup (kv.1.map kV))) ks ds
 |_,_,_,.nil,.nil=>⟨⟨_,_,.nil,by simp,.nil,by simp⟩,.nil⟩
 |_,_,_,.cons (a:=kv) (b:=z) q t,.cons (b:=d) e te=>by
  obtain⟨⟨as,bs,r1,n1,r2,n2⟩,pp⟩:=ky I hS t te;obtain⟨_,hb,rv⟩:=q
  have rk:jf X.K H d.1 (.ref z.2.1):=by
   rw[e.1];unfold jf;exact⟨z.2.1,_,rfl,bf.of hb,jl X.K H kv.1⟩
  obtain⟨as1,ra,na⟩:=ly I hS d.1 _ (.ref z.2.1) rk rfl;obtain⟨bs1,rb,nb⟩:=ly I hS d.2 _ _ e.2 rv;exact⟨⟨_,_,.cons ra r1,by simp only[List.mem_append,not_or];exact⟨na,n1⟩,.cons rb r2,by simp only[List.mem_append,not_or];exact⟨nb,n2⟩⟩,.cons ⟨e,_,hb⟩ pp⟩
theorem eY (hr:om k X.A)(hS:oj X.K):bZ X (.builtin "repr") (λxs H Q=>∃a FF ds,xs=[.ref a]/\Rd H a (.dT FF)/\Paired (vw X.K H) FF ds/\PyData.showableKv ds=true/\PyData.depthKv ds<=50/\nK ds<=16777216/\Q (.str (PyData.dict ds).shown) H):=by
 intro pins s σ H vs us Q I r h;obtain⟨a,FF,ds,rfl,hd,he,hs,UJ,hz,q⟩:=h;obtain⟨u,rfl,ru⟩:=fE r
 cases(show u=Value.ref a from ru)
 obtain⟨_,FX,zs,kt,o,es,ep,h1,h2,h3,h4,_⟩:=fA I.hok hd;obtain⟨⟨as,bs,r1,n1,r2,n2⟩,pp⟩:=ky I hS kt he
 have e1:es.toList.map (·.key)=zs.map λz=>Value.ref z.2.1:=by rw[h4,List.map_map];rfl
 have e2:es.toList.map (·.val)=zs.map λz=>z.2.2:=by rw[h4,List.map_map];rfl
 have rr:Reads s.heap (.ref a) (.dict ds) (a::as++bs):=.dict h1 h2.1 h3 (by rw[e1];exact r1) (by rw[e2];exact r2)
 have na:sysModules∉a::as++bs:=by
  simp only[List.cons_append,List.mem_cons,List.mem_append,not_or];exact⟨λz=>by rw[<-z] at FX;simp at FX,n1,n2⟩
 have sz:(PyData.dict ds).shown.length<=sizeLine:=by
  have a:=jC pp hs;have b:=dictText_len_le (PyData.shownKv ds);have c:=PyData.shownKv_length ds;show(dictText (PyData.shownKv ds)).length<=sizeLine;rw[sizeLine_eq];omega
 refine repr_of_reads' rr (by simpa[PyData.showable] using hs) (λ_=>na) hr.gd (by have:=hr.units;simp only[PyData.depth];omega) (λ_ _ e=>e) (λh' u tk hk=>?_) sz;exact⟨.str _,H,I.kept (t':=tk) hk,⟨u,rfl⟩,q⟩
end
theorem Paired.erase {α β:Type}{R:α->β->Prop}:∀{l:List α}{m:List β}(j:Nat),Paired R l m->Paired R (l.eraseIdx j) (m.eraseIdx j)
 |_,_,_,.nil=>.nil
 |_,_,0,.cons _ t=>t
 |_,_,j+1,.cons r t=>.cons r (Paired.erase j t)
theorem d6 {α β:Type}(f:α->β):∀(l:List α)(j:Nat),(l.map f).eraseIdx j=(l.eraseIdx j).map f
 |[],_=>rfl
 |_::_,0=>rfl
 |a::l,j+1=>by
  show f a::(l.map f).eraseIdx j=f a::(l.eraseIdx j).map f;rw[d6 f l j]
section
variable {X:Cx}{pins:List (Addr×Obj)}{σ:St}{H:Hp}{s:Fp}
theorem B7 {A:Around}{E:yg}{Q:yg}{a b:Addr}{FF:List (List Key×V)}{k:List Key}{y:V}{j:Nat}(hu:A.units+1<cLine)(I:Inv X pins σ H s)(e:H a=some (.dT FF))(eb:H b=some (.tup (k.map kV)))
 (hj:FF[j]?=some (k,y))(h:∀u s',aC y u->Inv X pins σ (upd H a (.dT (FF.eraseIdx j))) s'->Q u s'):wpAny (model X.prog X.w) A (call (.builtin "dict.pop") [.ref a,.ref b]) Q E s:=by
 obtain⟨z0,hd,xs,rel,dd⟩:=xg I.hok e;refine wpAny_call_entry PySem.F.slot_dict_pop dd.typeIs PySem.F.entry_dict_pop ?_ (PySem.F.args_dict_pop_2 _ _);have hT:=dd.typeIs;have Jn:=dY I.hok eb;obtain⟨o,es,ep,ho,hc,HG,he,Xu,hn⟩:=dd
 have Xv:xs.length<=sizeLine:=by rw[<-Paired.length rel];exact z0
 have Po:es.size<=sizeLine:=by rw[size_of_entries he];exact Xv
 obtain⟨⟨k',p⟩,hx,e1,e2,e3⟩:=eV rel hj;have e1:k=k':=e1;subst e1
 have UR:j<es.size:=by
  rw[size_of_entries he];exact(List.getElem?_eq_some_iff.mp hx).1
 unfold Builtin.«dict.pop»;refine wpAny_bind ?_;unfold Builtin.Dict.keyAndDefault;refine wpAny_bind (wpAny_notOrdered_dict hT ?_);show wpAny _ _ (pure (a,Value.ref b,none)) _ _ s;refine wpAny_pure ?_;dsimp only;rw[if_neg (by simp[keyPart])];refine wpAny_bind (wpAny_dictEntries ho HG (wpAny_bind (wpAny_pure ?_)))
 have ne:es.isEmpty=false:=by
  rw[Array.isEmpty_eq_false_iff];intro z;rw[z] at UR;exact absurd UR (by simp)
 rw[if_neg (by rw[ne];exact Bool.false_ne_true)];refine wpAny_bind ?_;unfold Builtin.Dict.takeOut;refine wpAny_holding (wpAny_bind ((tupleKind (aQ X.prog X.w)).pyHash (show A.units+1<cLine from hu) Jn (wpAny_bind (wpAny_dictFind_heap (s:={s with toks:=s.toks+(tupleKind (aQ X.prog X.w)).draws k}) (show A.units+1<cLine from hu) Jn ho HG he Xu hn (λGJ=>absurd hx (GJ j p)) λi q hi=>?_))));have ij:i=j:=idxH_unique hn hi hx;subst ij
 have eq:q=p:=by rw[hi] at hx;exact(Prod.mk.inj (Option.some.inj hx)).2
 subst eq;refine wpAny_bind (wpAny_dictEntries (s:={s with toks:=s.toks+(tupleKind (aQ X.prog X.w)).draws k}) ho HG ?_);rw[entry_at he i,hi];refine wpAny_bind (wpAny_updateDictKeys (hz:=Po) (s:={s with toks:=s.toks+(tupleKind (aQ X.prog X.w)).draws k}) ho HG (wpAny_pure ?_));have sb:Heap.SameBut a s.heap (s.heap.update a (Obj.mapDictKeys λx=>x.eraseIdxIfInBounds i)):=Heap.SameBut.update ..;have MR:=Heap.get?_update_self (Obj.mapDictKeys λx=>x.eraseIdxIfInBounds i) ho (Obj.isFreed_of_dict (Obj.data_mapDictKeys HG _))
 have I2:Inv X pins σ (upd H a (.dT (FF.eraseIdx i))) {s with heap:=s.heap.update a (Obj.mapDictKeys λx=>x.eraseIdxIfInBounds i),toks:=s.toks+(tupleKind (aQ X.prog X.w)).draws k}:=by
  refine jt I (by rw[e];exact True.intro) sb ⟨_,MR⟩ ⟨Nat.le_trans (List.length_eraseIdx_le _ _) z0,hd,xs.eraseIdx i,(KT.keeps (Paired.erase i rel) λc ys ec=>?_),_,_,_,MR,hc.mapDictKeys _,Obj.data_mapDictKeys HG _,?_,?_⟩
  ·rw[ai (i7 ec e (λz=>nomatch z))];exact ec
  ·rw[<-d6,<-he];obtain⟨l⟩:=es;simp
  ·rw[<-d6];exact hn.sublist (List.eraseIdx_sublist _ _)
 simp only[Option.isNone_some,Bool.false_eq_true,if_false];exact wpAny_bind (wpAny_letGo (wpAny_pure ⟨_,rfl,h _ _ e3 I2⟩))
noncomputable def BO (td ty:TE):TE:=λσ H Q=>td σ H λx H1=>∃a,x=.ref a/\D8 H1 a/\ty σ H1 λy H2=>∃FF k j v b,H2 a=some (.dT FF)/\y=.ref b/\H2 b=some (.tup (k.map kV))/\FF[j]?=some (k,v)/\Q v (upd H2 a (.dT (FF.eraseIdx j)))
theorem xY {o e:Expr}{apos FU:Pos}{td ty:TE}(hu:X.A.units+1<cLine)(ho:PE X o td)(he:PE X e ty)(m:ab3 X o "pop" apos e FU):PE X (.Call (.Attribute o "pop" apos) [e] [] FU) (BO td ty):=by
 intro pins s σ H Q I h;refine wpAny_Call_method m.base m.few m.line PySem.F.plainAttrs_dict PySem.F.slot_dict_pop PySem.F.type_dict_pop (bp (ho pins s σ H _ I h) λu s1 z'=>?_);obtain⟨x,H1,I1,rx,a,ex,d,q1⟩:=z';subst ex;obtain rfl:u=Value.ref a:=rx;obtain⟨t1,t2,_⟩:=xO I1 d;refine⟨t1,t2,?_⟩;rw[m.trees];refine Calls.callWith_builtin rfl (Calls.evalArgs_plain (Calls.spliced_cons (bp (he pins s1 σ H1 _ I1 q1) λiv s2 ⟨y,H2,I2,ry,FF,k,j,v,b,ea,ey,eb,hj,q2⟩=>Calls.spliced_nil ?_)));subst ey
 cases(show iv=Value.ref b from ry)
 exact B7 hu I2 ea eb hj λw' s3 GI I3=>⟨v,_,I3,GI,q2⟩
theorem pN:∀{ns:List Int}{its:qw},aG (ns.map V.int) its->IntsAre its ns
 |[],_,.nil=>.nil
 |n::ns,_,.cons ⟨t,e⟩ r=>by
  subst e;exact .cons n t (pN r)
theorem uR (hc:X.calm=true):bZ X (.builtin "sum") (λxs H Q=>∃(l:Addr)(ns:List Int),xs=[.ref l]/\aY X.K H l (ns.map V.int)/\Q (.int ns.sum) H):=by
 intro pins s σ H vs us Q I r h;obtain⟨l,ns,rfl,hl,q⟩:=h;obtain⟨u,rfl,ru⟩:=fE r
 cases(show u=Value.ref l from ru)
 obtain⟨its,rv,pl,_⟩:=I.list hl;have hi:=pN rv;obtain⟨xs,hx⟩:=hi.allInts.items
 have e:its=(intItems xs).toList:=by rw[<-hx]
 refine sum_intListG (xs:=xs) (I.ok.hd hc) (by rw[<-hx];exact pl.isList) λh' tk t' hk=>⟨.int ns.sum,H,I.kept (t':=tk) hk,?_,q⟩;refine⟨t',?_⟩;have e1:numsOf its=ns:=hi.numsOf;rw[e,nums_intItems] at e1;rw[preSum_eq,List.take_of_length_le (by simp),e1]
end
section
variable {prog:vQ}{w:World}{A:Around}{R:Result->Shared->Prop}{s:Fp}
theorem pC (elt:Expr)(g0:Comprehension)(target iter:Expr)(ifs:Bo)(scope:Scope)(pos:Pos)(it acc:Value)(env:Env):
 compTurn (.ListComp elt [g0,⟨target,iter,ifs,0⟩] scope pos) 1 it acc env=(do
  standAt iter.pos
  match <-pyNext it with
  |none=>pure (.done .next)
  |some v=>do
   letOwnedTupleGo target it v
   assign target env v
   let ok <-forIn ifs true λc r=>if r=true then do let ok <-PySem.isTrue c env (eval c env);pure (ForInStep.yield ok) else pure (ForInStep.yield r)
   if ok=true then do
    let _ <-(do
     let x <-eval elt env
     let _ <-call (Value.builtin "list.append") [acc,x]
     pure ())
    again (.compLoop (.ListComp elt [g0,⟨target,iter,ifs,0⟩] scope pos) 1 it acc env)
   else again (.compLoop (.ListComp elt [g0,⟨target,iter,ifs,0⟩] scope pos) 1 it acc env)):=by
 unfold compTurn;rfl
theorem n4 (elt t0 i0:Expr)(t1 i1:Expr)(Jk if1:Bo)(scope:Scope)(pos:Pos)(it acc:Value)(env:Env):
 compTurn (.ListComp elt [⟨t0,i0,Jk,0⟩,⟨t1,i1,if1,0⟩] scope pos) 0 it acc env=(do
  standAt i0.pos
  match <-pyNext it with
  |none=>pure (.done .next)
  |some v=>do
   letOwnedTupleGo t0 it v
   assign t0 env v
   let ok <-forIn Jk true λc r=>if r=true then do let ok <-PySem.isTrue c env (eval c env);pure (ForInStep.yield ok) else pure (ForInStep.yield r)
   if ok=true then do
    let x <-eval i1 env
    standAt i1.pos
    let x <-foldedSetIterable i1 env x
    let y <-holding [x] (pyIter x)
    let _ <-runOwn (.compStart (.ListComp elt [⟨t0,i0,Jk,0⟩,⟨t1,i1,if1,0⟩] scope pos) 1 y acc env) env
    again (.compLoop (.ListComp elt [⟨t0,i0,Jk,0⟩,⟨t1,i1,if1,0⟩] scope pos) 0 it acc env)
   else again (.compLoop (.ListComp elt [⟨t0,i0,Jk,0⟩,⟨t1,i1,if1,0⟩] scope pos) 0 it acc env)):=by
 unfold compTurn;rfl
theorem pI {elt target iter:Expr}{g0:Comprehension}{ifs:Bo}{scope:Scope}{pos:Pos}{it acc:Value}{env:Env}(I:Nat->Shared->Prop)
 (turn:∀n s,I n s->wpAny (model prog w) A (pyNext it) (λr s₁=>match r with
  |none=>R (.ok .next) s₁
  |some v=>wpAny (model prog w) A (letOwnedTupleGo target it v) (λ_ s₁=>wpAny (model prog w) A (assign target env v) (λ_ s₂ =>
   wpAny (model prog w) A (forIn ifs true λc r=>if r=true then do let ok <-isTrue c env (eval c env);pure (ForInStep.yield ok) else pure (ForInStep.yield r)) (λok s₃ =>
    if ok=true then wpAny (model prog w) A (eval elt env) (λx s₄ =>
     wpAny (model prog w) A (call (.builtin "list.append") [acc,x]) (λ_ s₅=>∃m,m<n/\I m s₅) (λ_ _=>False) s₄) (λ_ _=>False) s₃
    else ∃m,m<n/\I m s₃) (λ_ _=>False) s₂) (λ_ _=>False) s₁) (λ_ _=>False) s₁) (λ_ _=>False) s)
 (n:Nat)(h:I n s):
 codeAny (model prog w) A (.compLoop (.ListComp elt [g0,⟨target,iter,ifs,0⟩] scope pos) 1 it acc env) R s:=by
 refine codeAny_loop rfl I (λn s hI=>?_) n h;show wpAny _ A ((compTurn (.ListComp elt [g0,⟨target,iter,ifs,0⟩] scope pos) 1 it acc env).onRaise (λx=>do noteFrame x env;theTreesLotGoes x)) _ _ s;refine wpAny_noted ?_;rw[pC];refine wpAny_bind (wpAny_standAt (wpAny_bind (wpAny_mono (turn n s hI) (λr s₁ h₁=>?_) λ_ _ z=>False.elim z)))
 cases r with
 |none=>exact wpAny_pure h₁
 |some v =>
  refine wpAny_bind (wpAny_mono h₁ (λ_ Qh KO=>?_) λ_ _ z=>False.elim z);refine wpAny_bind (wpAny_mono KO (λ_ s₂ h₂=>wpAny_bind (wpAny_mono h₂ (λok s₃ h₃=>?_) λ_ _ z=>False.elim z)) λ_ _ z=>False.elim z)
  cases ok with
  |false=>exact wpAny_pure ⟨rfl,h₃⟩
  |true =>
   exact wpAny_bind (wpAny_bind (wpAny_mono h₃ (λx s₄ h₄=>wpAny_bind (wpAny_mono h₄ (λ_ s₅ h₅=>wpAny_pure (wpAny_pure ⟨rfl,h₅⟩)) λ_ _ z=>False.elim z)) λ_ _ z=>False.elim z))
theorem n8 {elt t0 i0 t1 i1:Expr}{Jk if1:Bo}{scope:Scope}{pos:Pos}{it acc:Value}{env:Env}(I:Nat->Shared->Prop)(MT:∀x,foldedSetIterable i1 env x=pure x)
 (turn:∀n s,I n s->wpAny (model prog w) A (pyNext it) (λr s₁=>match r with
  |none=>R (.ok .next) s₁
  |some v=>wpAny (model prog w) A (letOwnedTupleGo t0 it v) (λ_ s₁=>wpAny (model prog w) A (assign t0 env v) (λ_ s₂ =>
   wpAny (model prog w) A (forIn Jk true λc r=>if r=true then do let ok <-isTrue c env (eval c env);pure (ForInStep.yield ok) else pure (ForInStep.yield r)) (λok s₃ =>
    if ok=true then wpAny (model prog w) A (eval i1 env) (λx s₄ =>
     wpAny (model prog w) A (holding [x] (pyIter x)) (λy s₅=>wpAny (model prog w) A (runOwn (.compStart (.ListComp elt [⟨t0,i0,Jk,0⟩,⟨t1,i1,if1,0⟩] scope pos) 1 y acc env) env) (λ_ s₆=>∃m,m<n/\I m s₆) (λ_ _=>False) s₅) (λ_ _=>False) s₄) (λ_ _=>False) s₃
    else ∃m,m<n/\I m s₃) (λ_ _=>False) s₂) (λ_ _=>False) s₁) (λ_ _=>False) s₁) (λ_ _=>False) s)
 (n:Nat)(h:I n s):
 codeAny (model prog w) A (.compLoop (.ListComp elt [⟨t0,i0,Jk,0⟩,⟨t1,i1,if1,0⟩] scope pos) 0 it acc env) R s:=by
 refine codeAny_loop rfl I (λn s hI=>?_) n h;show wpAny _ A ((compTurn (.ListComp elt [⟨t0,i0,Jk,0⟩,⟨t1,i1,if1,0⟩] scope pos) 0 it acc env).onRaise (λx=>do noteFrame x env;theTreesLotGoes x)) _ _ s;refine wpAny_noted ?_;rw[n4];refine wpAny_bind (wpAny_standAt (wpAny_bind (wpAny_mono (turn n s hI) (λr s₁ h₁=>?_) λ_ _ z=>False.elim z)))
 cases r with
 |none=>exact wpAny_pure h₁
 |some v =>
  refine wpAny_bind (wpAny_mono h₁ (λ_ Qh KO=>?_) λ_ _ z=>False.elim z);refine wpAny_bind (wpAny_mono KO (λ_ s₂ h₂=>wpAny_bind (wpAny_mono h₂ (λok s₃ h₃=>?_) λ_ _ z=>False.elim z)) λ_ _ z=>False.elim z)
  cases ok with
  |false=>exact wpAny_pure ⟨rfl,h₃⟩
  |true =>
   refine wpAny_bind (wpAny_mono h₃ (λx s₄ h₄=>?_) λ_ _ z=>False.elim z);refine wpAny_bind (wpAny_standAt ?_);rw[MT];refine wpAny_bind (wpAny_pure ?_);exact wpAny_bind (wpAny_mono h₄ (λy s₅ h₅=>wpAny_bind (wpAny_mono h₅ (λ_ s₆ h₆=>wpAny_pure ⟨rfl,h₆⟩) λ_ _ z=>False.elim z)) λ_ _ z=>False.elim z)
theorem fU {elt target iter g0 ifs scope pos it acc env}
 (h0:codeAny (model prog w) A (.compLoop (.ListComp elt [g0,⟨target,iter,ifs,0⟩] scope pos) 1 it acc env) R s)
 (h:wpAny (model prog w) A (pyIter it) (λLc s'=>codeAny (model prog w) A (.compLoop (.ListComp elt [g0,⟨target,iter,ifs,0⟩] scope pos) 1 Lc acc env) R s')
  (notedBy (model prog w) A env λx s'=>R (.error x) s') s):
 codeAny (model prog w) A (.compStart (.ListComp elt [g0,⟨target,iter,ifs,0⟩] scope pos) 1 it acc env) R s:=by
 refine codeAny_of_tree ?_;show wpAny _ _ ((compStart (.ListComp elt [g0,⟨target,iter,ifs,0⟩] scope pos) 1 it acc env).onRaise (λx=>do noteFrame x env;standAt theWindowsPlace)) _ _ s;refine wpAny_notedAt ?_;unfold compStart;show wpAny _ _ (ask>>=_) _ _ s;refine wpAny_bind (wpAny_askSetting (wpAny_ite ?_))
 split
 ·first
   |exact wpAny_bind (wpAny_pure (wpAny_pure (And.intro rfl h0)))
   |exact wpAny_pure (And.intro rfl h0)
 ·first
   |exact wpAny_bind (wpAny_rule (wpAny_bind (wpAny_standAt (wpAny_bind (wpAny_mono h (λLc s' h'=>wpAny_pure (And.intro rfl h')) λ_ _ x=>x)))))
   |(refine wpAny_bind (wpAny_rule ?_);show wpAny _ _ (standAt iter.pos>>=_) _ _ s;exact wpAny_bind (wpAny_standAt (wpAny_bind (wpAny_mono h (λLc s' h'=>wpAny_pure (And.intro rfl h')) λ_ _ x=>x))))
end
section
variable {X:Cx}{tg iter elt J9 Gu:Expr}{ifs HV:Bo}{scope osc:Scope}{pos:Pos}{N:wk}{nl:Nat}{js:List Nat}
noncomputable def CO (J:It)(g:TG)(tt:TT)(te:TE)(W:Nat->Nat->List V->St->Hp->Prop)(Fin:List V->St->Hp->Prop):Prop :=
 ∀i m xs σ' H',W i m xs σ' H'->xs.length<sizeLine/\((J.stop i H'/\Fin xs σ' H') \/
  (J.go i H'/\∀x H2,J.yld i H' x H2->g x σ' H2 λσ3 H3=>tt σ3 H3 λb H4 =>
   if b=true then te σ3 H4 λy H5=>∃m',m'<m/\W (i+1) m' (xs++[y]) σ3 H5 else ∃m',m'<m/\W (i+1) m' xs σ3 H4))
noncomputable def xh (J:It)(g:TG)(tt:TT)(wi1:TI)(g1:TG)(JC:TT)(te:TE)(W:Nat->Nat->List V->St->Hp->Prop)(Fin:List V->Hp->Prop):Prop :=
 ∀i m xs σ' H',W i m xs σ' H'->xs.length<sizeLine/\((J.stop i H'/\Fin xs H') \/
  (J.go i H'/\∀x H2,J.yld i H' x H2->g x σ' H2 λσ3 H3=>tt σ3 H3 λb H4 =>
   if b=true then wi1 σ3 H4 λJ1 H5=>∃W1:Nat->Nat->List V->St->Hp->Prop,(∃m1,W1 0 m1 xs σ3 H5)/\CO J1 g1 JC te W1 λys σ6 H6=>∃m',m'<m/\W (i+1) m' ys σ6 H6
   else ∃m',m'<m/\W (i+1) m' xs σ3 H4))
theorem oR {pins:List (Addr×Obj)}{σ:St}{H:Hp}{s:Fp}{J:It}{it:Addr}{fp:List Addr}{tn:Nat->Heap->Prop}{g g1:TG}{tt JC:TT}{wi1:TI}{te:TE}{W:Nat->Nat->List V->St->Hp->Prop}{Fin:List V->Hp->Prop}
 {E:yg}{RR:Value->Addr->Result->Shared->Prop}
 (S:Ew X N nl js osc scope)(hc:X.calm=true)(hg:∀C fp s H,PG (bD X N scope C fp s H) tg g)(ht:∀C fp s H,yo (bD X N scope C fp s H) ifs tt)(Q5:∀C fp s H,PI (bD X N scope C fp s H) J9 Gu wi1)(Q6:∀C fp s H,PG (bD X N scope C fp s H) J9 g1)(IG:∀C fp s H,yo (bD X N scope C fp s H) HV JC)(he:∀C fp s H,PE (bD X N scope C fp s H) elt te)
 (I:Inv X pins σ H s)(T:Turn X.prog X.w X.K tg J fp it tn)(st:tn 0 s.heap)(f:∀b∈fp,cf X pins H b)(w0:∃m,W 0 m [] (σC nl js σ) H)(hW:xh J g tt wi1 g1 JC te W Fin)(La:∀env x,foldedSetIterable Gu env x=pure x)
 (Mi:∀(D C:Addr)(H':Hp)(s':Fp)(xs:List V)(m:FA),Inv X pins σ (upd H' D (.lst xs)) s'->H' D=none->s'.heap.Ns C m->cf X pins (upd H' D (.lst xs)) C->Fin xs H'->RR (.ref D) C (.ok .next) s'):
 wpAny (model X.prog X.w) X.A (newList []) (λacc s₃=>wpAny (model X.prog X.w) X.A (newFunctionEnv scope X.env.globals (cZ scope.names X.env) [] X.env.qual none .none (some X.env)) (λHj s₄ =>
  codeAny (model X.prog X.w) X.A (.compStart (.ListComp elt [⟨tg,iter,ifs,0⟩,⟨J9,Gu,HV,0⟩] scope pos) 0 (.ref it) acc {Hj with scope:=relabel scope X.env}) (RR acc Hj.locals) s₄) E s₃) E s:=by
 have Ie:∀b∈fp,b<s.heap.objs.size:=λb hb=>by
  obtain⟨o,e,_⟩:=T.obj 0 _ st b hb;exact Heap.lt_size e
 refine wpAny_newObj_type (wpAny_newFunctionEnv S.cell (by intro y hy;simp at hy) (λh₁ Gy Gm=>?_) S.kind);dsimp only at Gy Gm |-;generalize Ig:s.heap.push {cls:=.type "list",dict:=none,data:=.seq ([]:qw).toArray}=H2 at Gy Gm |-
 have hC:H2.objs.size=s.heap.objs.size+1:=by rw[<-Ig,Heap.size_push]
 have Jf:s.heap.objs.size≠H2.objs.size:=by rw[hC];exact Nat.ne_of_lt (Nat.lt_succ_self _)
 have below:∀b,b<s.heap.objs.size->b≠H2.objs.size/\b≠s.heap.objs.size:=λb hb=>⟨by rw[hC];exact Nat.ne_of_lt (Nat.lt_succ_of_lt hb),Nat.ne_of_lt hb⟩;have old:∀b o,s.heap.get? b=some o->h₁.get? b=some o:=λb o e=>Gm.extBut b o (below b (Heap.lt_size e)).1 (Heap.get?_push_of_some _ (Ig▸Heap.get?_push_of_some _ e));have KQ:h₁.get? s.heap.objs.size=some {cls:=.type "list",data:=.seq ([]:qw).toArray 0}:=Gm.extBut _ _ Jf (Heap.get?_push_of_some _ (Ig▸Heap.get?_push_size _ rfl))
 have HA:s.heap.objs.size<=H2.objs.size:=by rw[hC];exact Nat.le_succ _
 have Ge:∀y∈scope.names,y.2=.free->∃c,X.env.cells.lookup y.1=some c:=λy hy hf=>by
  have z:=S.free y hy hf;rw[<-S.out] at z;exact I.ok.has y.1 z
 have sub:∀x c,(cZ scope.names X.env).lookup x=some c->X.env.cells.lookup x=some c:=λx c e=>iq Ge e
 have Qi:∀x c,(cZ scope.names X.env).lookup x=some c->c<s.heap.objs.size:=λx c e=>by
  obtain⟨v,q⟩:=I.cell x c (sub x c e);exact q.lt
 have Jp:∀b∈fp,b∉cW X.stack:=λb hb z=>by
  rcases List.mem_cons.mp (I.aaE b z) with q|q
  ·exact(f b hb).2.1 q
  ·exact(f b hb).2.2.1 q
 have LK:s.heap.objs.size∉cW X.stack:=λz=>by
  rcases List.mem_cons.mp (I.aaE _ z) with q|q
  ·exact absurd I.lt (by rw[<-q];exact Nat.lt_irrefl _)
  ·exact I.ab7 (Nat.le_refl _) q
 have Mj:s.heap.objs.size∉fp:=λz=>Nat.lt_irrefl _ (Ie _ z)
 have Iw:∀{H':Hp}{ob:Obj},(∀b∈fp,H' b=none)->∀b∈fp,cf (bD X N scope H2.objs.size fp s H) [(s.heap.objs.size,ob)] H' b:=λ{H' ob} hn b hb =>
  ⟨hn b hb,(below b (Ie b hb)).1,Jp b hb,.inl hb,λx c e=>(f b hb).2.2.2.2.1 x c (sub x c e),λp hp z=>by
   have e:p=(s.heap.objs.size,ob):=by
    have:p∈[(s.heap.objs.size,ob)]:=hp;simpa using this
   subst e
   exact Mj (by rw[show s.heap.objs.size=b from z];exact hb)⟩
 have Qj:∀{H':Hp},H' s.heap.objs.size=none->cf (bD X N scope H2.objs.size fp s H) [] H' s.heap.objs.size:=λ{H'} hn =>
  ⟨hn,Jf,LK,.inr (Nat.le_refl _),λx c e=>Nat.ne_of_lt (Qi x c e),λp hp=>absurd (show p∈([]:List (Addr×Obj)) from hp) (by simp)⟩
 have Jq:∀{σ':St}{H':Hp}{s':Fp}{ys:qw}{k:Nat},Inv (bD X N scope H2.objs.size fp s H) [] σ' H' s'->H' s.heap.objs.size=none->s'.heap.get? s.heap.objs.size=some (ig ys k) →
  Inv (bD X N scope H2.objs.size fp s H) [(s.heap.objs.size,ig ys k)] σ' H' s':=λ{σ' H' s' ys k} I' hn hl=>I'.aaG λp hp=>by
  have e:p=(s.heap.objs.size,ig ys k):=by simpa using hp
  subst e;exact⟨hl,hn,Jf,LK,λv z=>by cases z⟩
 have loop:∀s₃:Shared,s₃={s with heap:=h₁,toks:=s.toks+([]:List (Str×Value)).length} →
  codeAny (model X.prog X.w) X.A (.compLoop (.ListComp elt [⟨tg,iter,ifs,0⟩,⟨J9,Gu,HV,0⟩] scope pos) 0 (.ref it) (.ref s.heap.objs.size) (compEnvC scope (cZ scope.names X.env) H2.objs.size X.env))
   (RR (.ref s.heap.objs.size) H2.objs.size) s₃:=by
  rintro s₃ rfl;obtain⟨m0,w0⟩:=w0;have I0:Inv (bD X N scope H2.objs.size fp s H) [] (σC nl js σ) H {s with heap:=h₁,toks:=s.toks+([]:List (Str×Value)).length}:=iZ S I f Ie HA old Gy
  refine n8 (λn s'=>∃i σ' H' xs ys k,Inv (bD X N scope H2.objs.size fp s H) [(s.heap.objs.size,ig ys k)] σ' H' s'/\tn i s'.heap/\(∀b∈fp,H' b=none)/\aG xs ys/\W i n xs σ' H') (La _) ?_ m0
   ⟨0,σC nl js σ,H,[],[],0,Jq I0 (I.hok.fresh (Nat.le_refl _)) KQ,T.keep _ _ _ st λb _ o e=>old b o e,λb hb=>(f b hb).1,.nil,w0⟩
  rintro n s' ⟨i,σ',H',xs,ys,k,I',Gj,JK,rv,w'⟩;obtain⟨hz,hw⟩:=hW i n xs σ' H' w'
  rcases hw with⟨stop,fin⟩|⟨go,step⟩
  ·refine wpAny_mono (T.done (bD X N scope H2.objs.size fp s H) rfl rfl rfl hc i _ s' σ' H' (λ_ _=>False) I' (Iw JK) Gj stop) (λr s1 z'=>?_) λ_ _ z=>z;obtain⟨hr,I1⟩:=z';subst hr;obtain⟨p1,p2,_⟩:=I1.pin (s.heap.objs.size,ig ys k) (by show _∈([]:List (Addr×Obj))++[_];simp);have u1:Un (cW X.stack) fp H H' s.heap s1.heap:=I1.base
   have u2:Un (cW X.stack) fp H (upd H' s.heap.objs.size (.lst xs)) s.heap s1.heap:=⟨u1.keep,u1.slot,λb o e n hx=>by rw[ai (Nat.ne_of_lt (Heap.lt_size e))];exact u1.free b o e n hx,u1.there,
    λb zs e=>by rw[ai (av (u1.aaC b zs e) p2)];exact u1.aaC b zs e,λb o zs e=>by rw[ai (av (u1.aaB b o zs e) p2)];exact u1.aaB b o zs e,λb ps e=>by
     obtain⟨mo,q⟩:=u1.aaI b ps e
     exact⟨mo,by rw[ai (av q p2)];exact q⟩⟩
   have hk:dM X.prog X.w (upd H' s.heap.objs.size (.lst xs)) s1.heap:=c6 I1.hok p2 ⟨Nat.le_of_lt hz,ys,k,rv,p1⟩;have I3:Inv X pins σ (upd H' s.heap.objs.size (.lst xs)) s1:=I.abp I1.os u2 hk I1.bare λb hb=>⟨(f b hb).2.2.2.1,(f b hb).2.1,(f b hb).2.2.2.2.1,(f b hb).2.2.2.2.2⟩;obtain⟨mm,JL,_⟩:=I1.loc
   have Qk:upd H' s.heap.objs.size (.lst xs) H2.objs.size=none:=by rw[ai (Ne.symm Jf)];exact I1.free
   exact Mi _ _ H' s1 xs mm I3 p2 JL (I.aa4 HA Qk) fin
  ·refine wpAny_mono (T.item (bD X N scope H2.objs.size fp s H) rfl rfl rfl hc i _ s' σ' H' (λ_ _=>False) I' (Iw JK) Gj go) (λr s1 z'=>?_) λ_ _ z=>z;obtain⟨u,hr,h4⟩:=z';subst hr;refine wpAny_mono h4 (λ_ s2 z'=>?_) λ_ _ z=>z;obtain⟨x,JM,I2,r2,y2,Gv,Ml⟩:=z';have Mm:=I2.pinned (Iw Ml) (T.obj _ _ Gv);refine wpAny_mono (hg _ _ _ _ _ s2 σ' JM x u _ Mm r2 (step x JM y2)) (λ_ s3 z'=>?_) λ_ _ z=>z;obtain⟨σ3,H3,I3,q3⟩:=z';refine wpAny_mono (ht _ _ _ _ _ s3 σ3 H3 _ I3 q3) (λok s4 z'=>?_) λ_ _ z=>z;obtain⟨H4,I4,q4⟩:=z'
   have IH:∀{s5:Fp}{H5:Hp}{σ5:St}{US:qw}{k5:Nat},Inv (bD X N scope H2.objs.size fp s H) ([(s.heap.objs.size,ig US k5)]++cU fp s2.heap) σ5 H5 s5->tn (i+1) s5.heap/\∀b∈fp,H5 b=none:=λ{s5 H5 σ5 US k5} I5 =>
    ⟨T.keep _ _ _ Gv λb hb o e=>(I5.pin (b,o) (List.mem_append_right _ (List.mem_append_right _ (bK hb e)))).1,λb hb=>by
     obtain⟨o,e,d⟩:=T.obj _ _ Gv b hb
     exact(I5.pin (b,o) (List.mem_append_right _ (List.mem_append_right _ (bK hb e)))).2.1⟩
   cases ok with
   |false =>
    rw[if_neg Bool.false_ne_true] at q4 |-;obtain⟨m',hm,w4⟩:=q4;exact⟨m',hm,i+1,σ3,H4,xs,ys,k,I4.aaA,(IH I4).1,(IH I4).2,rv,w4⟩
   |true =>
    rw[if_pos rfl] at q4 |-;refine wpAny_mono (Q5 _ _ _ _ _ s4 σ3 H4 _ I4 q4) (λv s5 h5=>wpAny_holding (wpAny_mono h5 (λKG s6 h6=>?_) λ_ _ z=>z)) λ_ _ z=>z;obtain⟨Xw,LU,UT,J1,H6,e,I6,T1,UU,f6,W1,⟨m1,w1⟩,Xx⟩:=h6;subst e;have pl:∀{s7:Fp}{H7:Hp}{σ7:St}{Hz:qw}{k7:Nat},Inv (bD X N scope H2.objs.size fp s H) ([(s.heap.objs.size,ig Hz k7)]++cU fp s2.heap) σ7 H7 s7->∀p∈cU fp s2.heap,s7.heap.get? p.1=some p.2/\H7 p.1=none/\p.1≠H2.objs.size/\p.1∉cW X.stack/\∀v,p.2.data≠.cell v:=λI7 p hp=>I7.pin p (List.mem_append_right _ (List.mem_append_right _ hp))
    have Q7:∀{H7:Hp}{Hz:qw}{k7:Nat},(∀b∈LU,H7 b=none)->∀b∈LU,cf (bD X N scope H2.objs.size fp s H) ([(s.heap.objs.size,ig Hz k7)]++cU fp s2.heap) H7 b:=λ{H7 Hz k7} hn b hb=>by
     obtain⟨g0,My,g2,g3,g4,g5⟩:=f6 b hb;refine⟨hn b hb,My,g2,g3,g4,λp hp=>?_⟩
     rcases List.mem_append.mp (show p∈[(s.heap.objs.size,ig Hz k7)]++cU fp s2.heap from hp) with z|z
     ·have e:p=(s.heap.objs.size,ig Hz k7):=by simpa using z
      subst e;exact g5 (s.heap.objs.size,ig ys k) (List.mem_append_right _ (List.mem_append_left _ (by simp)))
     ·exact g5 p (List.mem_append_right _ (List.mem_append_right _ z))
    refine wpAny_runOwn ?_;show codeAny _ X.A _ _ s6
    have Ka:codeAny (model X.prog X.w) X.A (.compLoop (.ListComp elt [⟨tg,iter,ifs,0⟩,⟨J9,Gu,HV,0⟩] scope pos) 1 (.ref Xw) (.ref s.heap.objs.size) (compEnvC scope (cZ scope.names X.env) H2.objs.size X.env))
     (λr s'=>match r with
      | .ok f=>∃m,m<n/\∃i σ' H' xs ys k,Inv (bD X N scope H2.objs.size fp s H) [(s.heap.objs.size,ig ys k)] σ' H' s'/\tn i s'.heap/\(∀b∈fp,H' b=none)/\aG xs ys/\W i m xs σ' H'
      | .error e=>cameBackBy (model X.prog X.w) X.A (compEnvC scope (cZ scope.names X.env) H2.objs.size X.env) (λ_ _=>False) e s') s6:=by
     refine pI (λn' s'=>∃j σ' H' UW UX k',Inv (bD X N scope H2.objs.size fp s H) ([(s.heap.objs.size,ig UX k')]++cU fp s2.heap) σ' H' s'/\UT j s'.heap/\(∀b∈LU,H' b=none)/\aG UW UX/\W1 j n' UW σ' H') ?_ m1
      ⟨0,σ3,H6,xs,ys,k,I6,UU,λb hb=>(f6 b hb).1,rv,w1⟩
     rintro n' s7 ⟨j,σ7,H7,Pp,Hz,k7,I7,UY,UZ,Pq,w7⟩;obtain⟨Xy,Xz⟩:=Xx j n' Pp σ7 H7 w7
     rcases Xz with⟨stop,m',hm,fin⟩|⟨go,step⟩
     ·refine wpAny_mono (T1.done (bD X N scope H2.objs.size fp s H) rfl rfl rfl hc j _ s7 σ7 H7 (λ_ _=>False) I7 (Q7 UZ) UY stop) (λr s8 z'=>?_) λ_ _ z=>z;obtain⟨hr,I8⟩:=z';subst hr;have bk:=IH I8;exact⟨m',hm,i+1,σ7,H7,Pp,Hz,k7,I8.aaA,bk.1,bk.2,Pq,fin⟩
     ·refine wpAny_mono (T1.item (bD X N scope H2.objs.size fp s H) rfl rfl rfl hc j _ s7 σ7 H7 (λ_ _=>False) I7 (Q7 UZ) UY go) (λr s8 z'=>?_) λ_ _ z=>z;obtain⟨u8,hr,h8⟩:=z';subst hr;refine wpAny_mono h8 (λ_ s9 z'=>?_) λ_ _ z=>z;obtain⟨x9,H9,I9,r9,y9,Q8,XA⟩:=z';have XB:=I9.pinned (Q7 XA) (T1.obj _ _ Q8);refine wpAny_mono (Q6 _ _ _ _ _ s9 σ7 H9 x9 u8 _ XB r9 (step x9 H9 y9)) (λ_ sa z'=>?_) λ_ _ z=>z;obtain⟨σa,Ha,Ia,qa⟩:=z';refine wpAny_mono (IG _ _ _ _ _ sa σa Ha _ Ia qa) (λok sb z'=>?_) λ_ _ z=>z;obtain⟨Hb,Ib,qb⟩:=z'
      have IJ:∀{sc:Fp}{Hc:Hp},Inv (bD X N scope H2.objs.size fp s H) (([(s.heap.objs.size,ig Hz k7)]++cU fp s2.heap)++cU LU s9.heap) σa Hc sc->UT (j+1) sc.heap/\∀b∈LU,Hc b=none:=λ{sc Hc} Ic =>
       ⟨T1.keep _ _ _ Q8 λb hb o e=>(Ic.pin (b,o) (List.mem_append_right _ (List.mem_append_right _ (bK hb e)))).1,λb hb=>by
        obtain⟨o,e,d⟩:=T1.obj _ _ Q8 b hb
        exact(Ic.pin (b,o) (List.mem_append_right _ (List.mem_append_right _ (bK hb e)))).2.1⟩
      cases ok with
      |false =>
       rw[if_neg Bool.false_ne_true] at qb |-;obtain⟨m',hm,wb⟩:=qb;exact⟨m',hm,j+1,σa,Hb,Pp,Hz,k7,Ib.aaA,(IJ Ib).1,(IJ Ib).2,Pq,wb⟩
      |true =>
       rw[if_pos rfl] at qb |-;refine wpAny_mono (he _ _ _ _ _ sb σa Hb _ Ib qb) (λvc sc z'=>?_) λ_ _ z=>z;obtain⟨yc,Hc,Ic,rc,m',hm,wc⟩:=z';obtain⟨XC,XD⟩:=IJ Ic;have Id:=Ic.aaA;obtain⟨p1,p2,_⟩:=Id.pin (s.heap.objs.size,ig Hz k7) (List.mem_append_right _ (List.mem_append_left _ (by simp)));have XF:s.heap.objs.size∉LU:=λhb=>(f6 _ hb).2.2.2.2.2 (s.heap.objs.size,ig ys k) (List.mem_append_right _ (List.mem_append_left _ (by simp))) rfl;refine append_at (its:=Hz.toArray) p1 (λh' JN hD=>?_) (by rw[List.size_toArray,<-Pq.length];exact Nat.le_of_lt Xy);have Ju:Inv (bD X N scope H2.objs.size fp s H) [] σa Hc {sc with heap:=h'}:=b9 (Id.aaG (pins':=[]) λp hp=>absurd hp (by simp)) (Qj p2) JN
       have QL:h'.get? s.heap.objs.size=some (ig (Hz++[vc]) (k7+1)):=by
        rw[hD];show some _=some (ig (Hz++[vc]) (k7+1));rw[ig,<-List.push_toArray]
       refine⟨m',hm,j+1,σa,Hc,Pp++[yc],Hz++[vc],k7+1,Ju.aaG λp hp=>?_,T1.keep _ _ _ XC λb hb o e=>(JN.2 b λz=>XF (z▸hb)).trans e,XD,Pq.append (.cons rc .nil),wc⟩
       rcases List.mem_append.mp hp with z|z
       ·have e:p=(s.heap.objs.size,ig (Hz++[vc]) (k7+1)):=by simpa using z
        subst e;exact⟨QL,p2,Jf,LK,λv z=>by cases z⟩
       ·obtain⟨a1,a2,a3,a4,a5⟩:=pl Id p z;exact⟨(JN.2 p.1 λe=>Mj (e▸(l5 z).1)).trans a1,a2,a3,a4,a5⟩
    exact fU Ka (T1.self X.A 0 _ _ _ UU Ka)
 exact codeAny_compStart_list (loop _ rfl) (T.self X.A 0 _ _ _ (T.keep _ _ _ st λb _ o e=>old b o e) (loop _ rfl))
noncomputable def B0 (wi:TI)(g:TG)(tt:TT)(wi1:TI)(g1:TG)(JC:TT)(te:TE)(nl:Nat)(js:List Nat):TE:=λσ H Q=>wi σ H λJ H1 =>
 ∃W:Nat->Nat->List V->St->Hp->Prop,(∃m,W 0 m [] (σC nl js σ) H1)/\xh J g tt wi1 g1 JC te W λxs H'=>∀D,H' D=none->Q (.ref D) (upd H' D (.lst xs))
theorem xD {wi wi1:TI}{g g1:TG}{tt JC:TT}{te:TE}(S:Ew X N nl js osc scope)(hc:X.calm=true)(hi:PI X tg iter wi)(hg:∀C fp s H,PG (bD X N scope C fp s H) tg g)(ht:∀C fp s H,yo (bD X N scope C fp s H) ifs tt)
 (Q5:∀C fp s H,PI (bD X N scope C fp s H) J9 Gu wi1)(Q6:∀C fp s H,PG (bD X N scope C fp s H) J9 g1)(IG:∀C fp s H,yo (bD X N scope C fp s H) HV JC)
 (he:∀C fp s H,PE (bD X N scope C fp s H) elt te)(hs:∀x,foldedSetIterable iter X.env x=pure x:=by intro _;rfl)(La:∀env x,foldedSetIterable Gu env x=pure x:=by intro _ _;rfl):
 PE X (.ListComp elt [⟨tg,iter,ifs,0⟩,⟨J9,Gu,HV,0⟩] scope pos) (B0 wi g tt wi1 g1 JC te nl js):=by
 intro pins s σ H Q I h;rw[eval_ListComp];refine wpAny_comprehension_free (use:=none) rfl hs (eX S I) S.kind S.names (bp (hi pins s σ H _ I h) λv s1 h1=>bp h1 λKG s2 h2=>?_);obtain⟨it,fp,tn,J,H2,e,I2,T,Gv,f2,W,w0,hW⟩:=h2;subst e;refine oR (RR:=λacc C=>compPost (model X.prog X.w) X.A X.xe none (EP X pins σ Q) acc C) S hc hg ht Q5 Q6 IG he I2 T Gv f2 w0 hW La ?_;intro D C H' s' xs m I3 hD hn fC fin;exact⟨m,hn,λh' sb=>⟨.ref D,_,b9 I3 fC sb,rfl,fin D hD⟩⟩
end
end L2
namespace K24
open PySem L2 PySem.W Nm Srt
noncomputable abbrev E5:Stmt:=(aV 19)
noncomputable abbrev Fg:Stmt:=(aV 25)
noncomputable abbrev EY:Stmt:=(aV 29)
noncomputable def xj (b:Int)(n:Int×Int):Int:=if b.fmod n.2≠0 then b.fdiv (bO b n.2)*n.2 else b
noncomputable def gc (ns:List (Int×Int)):Int:=ns.foldl xj 1
theorem pT (ns:List (Int×Int))(n:Int×Int):gc (ns++[n])=xj (gc ns) n:=by
 unfold gc;rw[List.foldl_append];rfl
theorem Bz (a b:Int):bO a b ∣ a:=Int.gcd_dvd_left ..
theorem BA (a b:Int):bO a b ∣ b:=Int.gcd_dvd_right ..
theorem B6 {b:Int}{n:Int×Int}{k m:Nat}(hb:0<b)(hn:0<n.2)(kb:B k b)(mn:B m n.2):0<xj b n/\b ∣ xj b n/\n.2 ∣ xj b n/\B (k+m) (xj b n):=by
 have gp:0<bO b n.2:=dh (by omega);obtain⟨x,hx⟩:=Bz b n.2;obtain⟨y,hy⟩:=BA b n.2
 have fd:b.fdiv (bO b n.2)=x:=by
  rw[Int.fdiv_eq_ediv_of_nonneg _ (Int.le_of_lt gp)];exact Int.ediv_eq_of_eq_mul_right (by omega) hx
 have xp:0<x:=by
  rcases Int.lt_or_le 0 x with h|h
  ·exact h
  ·have:=Int.mul_nonpos_of_nonneg_of_nonpos (Int.le_of_lt gp) h;omega
 unfold xj
 by_cases z:b.fmod n.2≠0
 ·rw[if_pos z,fd];refine⟨Int.mul_pos xp hn,⟨y,?_⟩,⟨x,Int.mul_comm _ _⟩,?_⟩
  ·generalize bO b n.2=g at hx hy;rw[hx,hy];grind
  ·refine B.mul (kb.le ?_) mn
   have e:b.natAbs=(bO b n.2).natAbs*x.natAbs:=by conv=>lhs;rw[hx,Int.natAbs_mul]
   rw[e];exact Nat.le_mul_of_pos_left _ (by omega)
 ·rw[if_neg z]
  have z:b.fmod n.2=0:=by
   rcases Classical.em (b.fmod n.2=0) with h|h
   ·exact h
   ·exact absurd h z
  refine⟨hb,Int.dvd_refl _,?_,kb.mono (by omega)⟩;have e:b.fmod n.2=b%n.2:=Int.fmod_eq_emod_of_nonneg _ (by omega);rw[e] at z;exact Int.dvd_of_emod_eq_zero z
theorem wC {m:Nat}:∀(k:Nat)(ns:List (Int×Int)),ns.length=k->(∀n∈ns,0<n.2/\B m n.2)->0<gc ns/\(∀n∈ns,n.2 ∣ gc ns)/\B (m*k+1) (gc ns)
 |0,ns,h,_=>by
  have:ns=[]:=List.length_eq_zero_iff.mp h;subst this;refine And.intro (by decide) (And.intro (λn hn=>absurd hn (by simp)) ?_);rw[Nat.mul_zero];show(1:Int).natAbs<2^(0+1);decide
 |k+1,ns,h,hn=>by
  obtain⟨Ga,t,rfl⟩:∃Ga t,ns=Ga++[t]:=by
   have FX:ns≠[]:=by intro z;rw[z] at h;cases h
   exact⟨ns.dropLast,ns.getLast FX,(List.dropLast_concat_getLast FX).symm⟩
  have hl:Ga.length=k:=by simpa using h
  obtain⟨h1,h2,h3⟩:=wC k Ga hl λn hm=>hn n (List.mem_append_left _ hm);have ht:=hn t (List.mem_append_right _ (by simp));obtain⟨g1,g2,g3,g4⟩:=B6 h1 ht.1 h3 ht.2;rw[pT];refine⟨g1,λn hm=>?_,g4.mono (by rw[Nat.mul_succ];omega)⟩
  rcases List.mem_append.mp hm with hm|hm
  ·exact Int.dvd_trans (h2 n hm) g2
  ·have:n=t:=by simpa using hm
   subst this;exact g3
noncomputable def Fl (H:Hp)(y:V)(n:Int×Int):Prop:=∃a,y=.ref a/\H a=some (bE n.1 n.2)
noncomputable abbrev nW (H:Hp):List V->List (Int×Int)->Prop:=Paired (Fl H)
variable {ns:List (Int×Int)}
theorem nW.keep {H H':Hp}{ys:List V}(h:nW H ys ns)(k:az H H'):nW H' ys ns:=Paired.aaW h λ_ _ ⟨a,e,z⟩=>⟨a,e,k _ _ z⟩
noncomputable def lG (ns:List (Int×Int)):Prop:=ns.length<=5/\∀n∈ns,0<n.2/\B 300 n.2
theorem lG.ok (h:lG ns):0<gc ns/\(∀n∈ns,n.2 ∣ gc ns)/\B 1501 (gc ns):=by
 obtain⟨h1,h2,h3⟩:=wC ns.length ns rfl h.2;have:=h.1;exact⟨h1,h2,h3.mono (by omega)⟩
theorem lG.take (h:lG ns)(i:Nat):lG (ns.take i):=⟨by rw[List.length_take];have:=h.1;omega,λn hn=>h.2 n (List.mem_of_mem_take hn)⟩
noncomputable def Dc (CN:Addr):Sp:=λvs H Q E=>∃(x:V)(T:String),vs=[x]/\Th H x T/\((∃i:Int,x=.int i/\0<=i/\i<=300/\Q (.int i) H)\/((∀i:Int,x=.int i->¬(0<=i/\i<=300))/\E (.ref CN) none H))
noncomputable def A8:Sp:=λvs H Q _=>∃(l:Addr)(ys:List V)(ns:List (Int×Int)),vs=[.ref l]/\H l=some (.lst ys)/\nW H ys ns/\lG ns/\Q (.int (gc ns)) H
noncomputable def DC (C CF:Addr):Sp:=λvs H Q _=>∃(l s:Addr)(p:Int)(ts:List Tm),vs=[.ref l]/\H l=some (.lst [.ref s])/\zU C CF H s p ts/\lG (ts.map (·.2))/\∀H',ay H H'->Q (.int (gc (ts.map (·.2)))) H'
theorem EK:uZ ["degree"] ["degree"] (ao E5):=d8 (by decide +kernel)
theorem zX:uZ ["numbers","bottom","number"] ["numbers"] (ao Fg):=d8 (by decide +kernel)
theorem Et:uZ ["sums"] ["sums"] (ao EY):=d8 (by decide +kernel)
variable {P:vQ}{w:World}{K:PySem.W.Frag}{mg:FA}{base:Heap}
variable {f:Addr}{fd:ET}
theorem Dk {fw CN:Addr}{Hl:ET}{U1:Tok}(F:uB K "checked_degree" "checked_degree" E5 f fd)(FW:Bu P w K mg base (aS P w) 1 fw Hl oX u7)(bW:L2.aA K Hl oX [])(mW:mg "is_whole"=some (.ref fw))(kW:keepIn K (.ref fw)=true)
 (Q9:mg "MOST_DEGREE"=some (.int 300 U1))(mN:mg "NoDegree"=some (.ref CN))(qN:nA K CN AL qB=true):Bu P w K mg base (aS P w) 2 f fd ["degree"] (Dc CN):=by
 refine F.okE EK (λvs H Q E h=>?_) (λFJ A outer s H vs Q E hr h=>?_)
 ·obtain⟨x,T,rfl,_⟩:=h;rfl
 ·obtain⟨x,T,rfl,th,h⟩:=h;have FY:om 1 _:=hr.mono (by decide)
  refine⟨_,(aj (bg (PW.pt (iA (cp (cq (ax FW FY (by rfl) mW kW bW .nil ag (@aq _ _ _ _ _ (pv 0) ah rfl)))) (fe (cp (acr me me ak (pv 0) (cR (by rfl) Q9 (show aC (.int 300) (.int 300 U1) from⟨_,rfl⟩))))))) (ar (gf PySem.F.excBase_ValueError qN rfl dH (by rfl) mN (@aq _ _ _ _ _ c7 ah rfl))) aJ)
   (ar (aB (pv 0)))),?_⟩
  refine⟨_,rfl,x,T,rfl,th,_,rfl,?_⟩
  cases th with
  |int i =>
   refine b8 ?_
   have bad:¬(0<=i/\i<=300)->E (.ref CN) none H:=λz=>by
    rcases h with⟨j,e,h1,h2,_⟩|⟨_,e⟩
    ·cases e;exact absurd ⟨h1,h2⟩ z
    ·exact e
   refine⟨_,rfl,_,_,rfl,rfl,_,rfl,?_⟩;refine cG (λh0=>?_) (λh0=>?_)
   ·have h0:0<=i:=by simpa using h0
    refine⟨_,_,rfl,rfl,_,rfl,?_⟩;refine cG (λh1=>?_) (λh1=>?_)
    ·have h1:¬i<=300:=by simpa using h1
     exact⟨by decide,bad λz=>h1 z.2⟩
    ·have h1:i<=300:=by simpa using h1
     rcases h with⟨j,e,_,_,q⟩|⟨n,_⟩
     ·cases e;exact⟨_,rfl,q⟩
     ·exact absurd ⟨h0,h1⟩ (n i rfl)
   ·have h0:¬0<=i:=by simpa using h0
    exact⟨_,rfl,cb ⟨by decide,bad λz=>h0 z.1⟩⟩
  |_ =>
   refine cb (cb ⟨by decide,?_⟩)
   rcases h with⟨i,e,_⟩|⟨_,e⟩
   ·cases e
   ·exact e
theorem DE {fg:Addr}{Iz:ET}(F:uB K "common_bottom" "common_bottom" Fg f fd)(FG:Bu P w K mg base (aS P w) 1 fg Iz uE Cw)(bG:L2.aA K Iz uE [])(mG:mg "common_divisor"=some (.ref fg))(kG:keepIn K (.ref fg)=true):Bu P w K mg base (aS P w) 2 f fd ["numbers"] A8:=by
 refine F.okN zX (λvs H Q E h=>?_) (λFJ A outer s H vs Q E hr h=>?_)
 ·obtain⟨l,ys,ns,rfl,_⟩:=h;rfl
 ·obtain⟨l,ys,ns,rfl,hl,hn,hp,q⟩:=h;have FY:om 1 _:=hr.mono (by decide)
  refine⟨_,(aj (@aK _ _ 1 _ _ _ _ zX.nd rfl (Or.inl rfl) ak rfl (Or.inl rfl))
   (aj (c9 PassesOwn.never rfl (bY (pv 0)) (aE (i:=2) zX.nd rfl (Or.inl rfl))
   (ar (bg (qh (@aD _ _ _ _ _ _ _ _ nj (pv 1) (@aX _ _ _ _ _ _ _ bw (pv 2) ak (λ_ _=>rfl))) (λ_=>rfl)) (ar (@aK _ _ 1 _ _ _ _ zX.nd rfl (Or.inl rfl) (@aD _ _ _ _ _ _ _ _ cz (@aD _ _ _ _ _ _ _ _ cT (pv 1) (ax FG FY (by rfl) mG kG bG .nil ag (@aq _ _ _ _ _ (pv 1) (@aq _ _ _ _ _ (@aX _ _ _ _ _ _ _ bw (pv 2) ak (λ_ _=>rfl)) ah rfl) rfl))) (@aX _ _ _ _ _ _ _ bw (pv 2) ak (λ_ _=>rfl))) rfl (Or.inl rfl))) aJ)))
   (ar (aB (pv 1))))),?_⟩
  refine⟨_,rfl,l,rfl,⟨ys,aY.of hl⟩,?_⟩;have hlen:=hn.length;refine⟨λi m σ' H'=>m=ns.length-i/\i<=ns.length/\H'=H/\∃o,σ'=[some (.ref l),some (.int (gc (ns.take i))),o],⟨ns.length,by simp,Nat.zero_le _,rfl,none,rfl⟩,?_⟩;rintro i m σ' H' ⟨rfl,hi,rfl,o,rfl⟩
  by_cases FO:i<ns.length
  ·have K7:i<ys.length:=by omega
   refine .inr ⟨⟨ys,ys[i],aY.of hl,by simp[K7]⟩,λσ' HB=>i+1<=ns.length/\HB=H'/\∃o,σ'=[some (.ref l),some (.int (gc (ns.take (i+1)))),o],?_,λy H2 hy=>?_⟩
   ·rintro σ' HB ⟨h1,h2,h3⟩;exact⟨ns.length-(i+1),by omega,rfl,h1,h2,h3⟩
   ·obtain⟨rfl,hy⟩:=hy;obtain⟨n,en,a,rfl,ha⟩:=aL hn (hy ys (aY.of hl))
    have Gk:ns.take (i+1)=ns.take i++[n]:=by rw[List.take_add_one,en];rfl
    have JL:=hp.2 n (List.mem_of_getElem? en);obtain⟨k1,_,k3⟩:=(hp.take i).ok;rw[Gk,pT];generalize gc (ns.take i)=b at k1 k3 |-;refine⟨_,rfl,_,rfl,a,_,1,_,rfl,rfl,bf.of ha,a1 _ _,_,_,rfl,rfl,(by omega:n.2≠0),_,rfl,?_⟩;unfold xj
    by_cases z:b.fmod n.2≠0
    ·have e:(b.fmod n.2 != 0)=true:=by simpa using z
     rw[e,if_pos z];have gp:0<bO b n.2:=dh (by omega);have gB:B 9000 (bO b n.2):=(JL.2.mono (by decide:300<=9000)).le (vP (by omega))
     have fB:B 9000 (b.fdiv (bO b n.2)):=by
      refine(k3.mono (by decide:1501<=9000)).le ?_;rw[Int.fdiv_eq_ediv_of_nonneg _ (Int.le_of_lt gp)];exact Int.natAbs_ediv_le_natAbs _ _
     refine cb ⟨_,rfl,_,rfl,_,rfl,a,_,1,_,rfl,rfl,bf.of ha,a1 _ _,b,n.2,rfl,_,_,rfl,rfl,⟨by omega,gB⟩,_,rfl,a,_,1,_,rfl,rfl,bf.of ha,a1 _ _,_,_,rfl,rfl,⟨fB,JL.2.mono (by decide)⟩,?_⟩;exact⟨FO,rfl,_,rfl⟩
    ·have e:(b.fmod n.2 != 0)=false:=by simpa using z
     rw[e,if_neg z];exact b8 ⟨FO,rfl,_,rfl⟩
  ·have ei:i=ns.length:=by omega
   subst ei;rw[List.take_length];exact .inl ⟨⟨ys,aY.of hl,by omega⟩,_,rfl,q⟩
theorem C0 {fc ft C CF:Addr}{HR GA:ET}(F:uB K "bottom_of" "bottom_of" EY f fd)(c:Fm K mg C)(Ra:Bu P w K mg base (aS P w) 2 fc HR ["numbers"] A8)(Rb:L2.aA K HR ["numbers"] [])(Rc:mg "common_bottom"=some (.ref fc))(Rf:keepIn K (.ref fc)=true)
 (Le:Bu P w K mg base (aS P w) 1 ft GA ["self"] (iw C CF))(Lf:L2.aA K GA ["self"] [])(Lg:L2.Meth K C "terms" ft):Bu P w K mg base (aS P w) 3 f fd ["sums"] (DC C CF):=by
 refine F.okN Et (λvs H Q E h=>?_) (λFJ A outer s H vs Q E hr h=>?_)
 ·obtain⟨l,s,p,ts,rfl,_⟩:=h;rfl
 ·obtain⟨l,s0,p,ts,rfl,hl,hs,hp,q⟩:=h;have FY:om 1 _:=hr.mono (by decide);have G9:om 2 _:=hr.mono (by decide)
  refine⟨_,(ar (aB (ax Ra G9 (by rfl) Rc Rf Rb .nil ag (@aq _ _ _ _ _ (xD (wi1:=AR K (xb C "terms" (iw C CF) [] (λ_ _ _=>False) (fH 0) E1)) (g:=bz 0) (g1:=ji K 2 (ck (bz 1) (ck (bz 2) Ek))) (N:=["one","product","number"]) (nl:=3) (js:=[]) (osc:=ao EY) ⟨rfl,rfl,by decide +kernel,by decide +kernel,by decide +kernel,rfl,.nil,by decide +kernel⟩ rfl
   (bY (pv 0))
   (λCq fq sq Hq=>aE (i:=0) (by show(["one","product","number"]:wk).Nodup;decide +kernel) rfl (Or.inl rfl) (Or.inr rfl))
   (λCq fq sq Hq=>eR)
   (λCq fq sq Hq=>(bY (X:=bD _ ["one","product","number"] _ Cq fq sq Hq) (f9 (X:=bD _ ["one","product","number"] _ Cq fq sq Hq) (pv (X:=bD _ ["one","product","number"] _ Cq fq sq Hq) 0) c.cl Lg Le FY Lf .nil ag)))
   (λCq fq sq Hq=>(cK (X:=bD _ ["one","product","number"] _ Cq fq sq Hq) rfl (aI (aE (X:=bD _ ["one","product","number"] _ Cq fq sq Hq) (i:=1) (by show(["one","product","number"]:wk).Nodup;decide +kernel) rfl (Or.inl rfl) (Or.inr rfl)) (aI (aE (X:=bD _ ["one","product","number"] _ Cq fq sq Hq) (i:=2) (by show(["one","product","number"]:wk).Nodup;decide +kernel) rfl (Or.inl rfl) (Or.inr rfl)) bX))))
   (λCq fq sq Hq=>eR)
   (λCq fq sq Hq=>(pv 2))) ah rfl)))),?_⟩
  obtain⟨dx,fl,F3,Dd,zs,h1,h2,h3,h4⟩:=hs.ex;have hlen:=h4.length;refine⟨_,rfl,l,rfl,⟨_,aY.of hl⟩,?_⟩;refine⟨λi m xs σ' H'=>m=1-i/\i<=1/\ay H H'/\nW H' xs (((ts.map (·.2)).take (i*ts.length)))/\∃o1 o2 o3,σ'=[o1,o2,o3],⟨1,rfl,Nat.zero_le _,ay.refl _,(by rw[Nat.zero_mul];exact .nil),none,none,none,rfl⟩,?_⟩;rintro i m xs σ' H' ⟨rfl,hi,sH,hx,o1,o2,o3,rfl⟩
  have lts:ts.length<=5:=by have:=hp.1;rwa[List.length_map] at this
  have xl:xs.length<sizeLine:=by
   rw[hx.length]
   have:((ts.map (·.2)).take (i*ts.length)).length<=5:=by rw[List.length_take,List.length_map];omega
   exact Nat.lt_of_le_of_lt this (by decide)
  refine⟨xl,?_⟩
  by_cases h0:i=0
  ·subst h0;refine .inr ⟨⟨_,.ref s0,aY.of (sH _ _ hl),rfl⟩,λx H2 hy=>?_⟩;obtain⟨rfl,hy⟩:=hy;have ex:V.ref s0=x:=Option.some.inj (hy _ (aY.of (sH _ _ hl)));subst ex;dsimp only[bz];refine zh ?_;refine⟨_,rfl,s0,dx,_,rfl,sH _ _ h1,rfl,s0,dx,fl,Dd,zs,rfl,sH _ _ h1,sH _ _ h3,λq0 Rg=>?_⟩;have s1:ay H (upd H2 q0 (.lst zs)):=sH.trans (au Rg);refine⟨q0,rfl,⟨_,aY.of ae⟩,?_⟩;rw[Nat.zero_mul] at hx
   have e0:xs=[]:=by cases hx;rfl
   subst e0;refine⟨λj m ys σ' H'=>m=ts.length-j/\j<=ts.length/\ay H H'/\H' q0=some (.lst zs)/\nW H' ys ((ts.map (·.2)).take j)/\∃o1 o2 o3,σ'=[o1,o2,o3],⟨ts.length,by simp,Nat.zero_le _,s1,ae,.nil,_,_,_,rfl⟩,?_⟩;rintro j m ys σ' H' ⟨rfl,hj,s2,hq,MU,o1,o2,o3,rfl⟩
   have yl:ys.length<sizeLine:=by
    rw[MU.length,List.length_take];exact Nat.lt_of_le_of_lt (by rw[List.length_map];omega:_<=5) (by decide)
   refine⟨yl,?_⟩
   by_cases FO:j<ts.length
   ·have Rh:j<zs.length:=by omega
    refine .inr ⟨⟨zs,zs[j],aY.of hq,by simp[Rh]⟩,λx H3 Ji=>?_⟩;obtain⟨rfl,Ji⟩:=Ji;obtain⟨t,et,a,pr,nu,rfl,ha,Gb,He⟩:=aL (bR.keep h4 (az.of s2)) (Ji zs (aY.of hq));refine⟨a,_,rfl,bf.of ha,rfl,_,_,rfl,_,_,rfl,rfl,?_⟩;refine zh ⟨_,rfl,ts.length-(j+1),by omega,rfl,FO,s2,hq,?_,_,_,_,rfl⟩
    have e:(ts.map (·.2)).take (j+1)=(ts.map (·.2)).take j++[t.2]:=by rw[List.take_add_one,List.getElem?_map,et];rfl
    rw[e];exact Paired.snoc MU ⟨nu,rfl,He⟩
   ·have ej:j=ts.length:=by omega
    subst ej;exact .inl ⟨⟨zs,aY.of hq,by omega⟩,0,by decide,rfl,by decide,s2,(by rw[Nat.zero_add,Nat.one_mul];exact MU),_,_,_,rfl⟩
  ·have e1:i=1:=by omega
   subst e1;refine .inl ⟨⟨_,aY.of (sH _ _ hl),Nat.le_refl 1⟩,λD hD=>?_⟩;rw[Nat.one_mul,List.take_of_length_le (by rw[List.length_map];omega)] at hx;exact⟨D,xs,_,rfl,ae,nW.keep hx (az.of (au hD)),hp,q _ (sH.trans (au hD))⟩
end K24
namespace L2
open PySem PySem.Spec PyProof.Rows PySem.W
noncomputable def yN (H:Hp)(a:Addr):Hp:=λb=>if b=a then none else H b
theorem j3 (H:Hp)(a:Addr):yN H a a=none:=if_pos rfl
theorem fL {H:Hp}{a b:Addr}(h:b≠a):yN H a b=H b:=if_neg h
section
variable {P:vQ}{w:World}{K:PySem.W.Frag}{mg:FA}{base:Heap}{N:wk}{qual:Str}{scope:Scope}{f:Addr}{cd:Value}{A:Around}{outer:List Env}{s:Fp}{H:Hp}{E:XK}
theorem oK:∀(pins:List (Addr×Obj))(σ:St)(H1:Hp)(s1:Fp)(a C dx:Addr),Inv (dw (aS P w) P w K mg base N qual scope f cd A outer s H E) pins σ H1 s1->H1 a=some (eU a (.ref C) dx true) →
 (H a=none/\E (.ref C) (some dx) (yN H1 a))->(dw (aS P w) P w K mg base N qual scope f cd A outer s H E).xe (.ref a) s1:=by
 intro pins σ H1 s1 a C dx I ea ⟨hn,hE⟩;obtain⟨o,vs,h1,h2,h3,h4,h5⟩:=jo I.hok ea;obtain⟨t,rfl⟩:=h5 rfl;have bs:Un (cW outer) [] H H1 s.heap s1.heap:=I.base
 have nS:s.heap.get? a=none:=by
  cases q:s.heap.get? a with
  |none=>rfl
  |some ob=>have z:=bs.free a ob q hn (by simp);rw[ea] at z;cases z
 generalize HI:cW (dw (aS P w) P w K mg base N qual scope f cd A outer s H E).stack=fs
 have Mt:∀b u,H1 b=some u->b∉fs:=λb u e z=>by rw[I.aaP b (HI▸z)] at e;cases e
 have Ih:∀b ob,s1.heap.get? b=some ob->b≠a->b∉fs->(hideAll s1.heap (a::fs)).get? b=some ob:=λb ob e n1 n2=>hideAll_get _ e (by simp[n1,n2]);have XG:∀b ob,(hideAll s1.heap (a::fs)).get? b=some ob->s1.heap.get? b=some ob:=λb ob q=>of_hideAll _ q;have nB:(hideAll s1.heap (a::fs)).get? a=none:=hideAll_none _ List.mem_cons_self;have Qm:s1.heap.FunFrames (hideAll s1.heap (a::fs)) _:=funFrames_hide I.stack λenv he b hb=>List.mem_cons_of_mem _ (HI▸List.mem_filterMap.mpr ⟨env,he,hb⟩)
 have IL:∀b ob,s.heap.get? b=some ob->b≠a:=λb ob e z=>by rw[z,nS] at e;cases e
 have old:∀b ob,s.heap.get? b=some ob->b∉cW outer->b∉fs:=λb ob e n z=>by
  rcases List.mem_cons.mp (I.aaE b (HI▸z)) with q|q
  ·exact absurd (Nat.lt_of_lt_of_le (Heap.lt_size e) I.ok.above) (by rw[q];exact Nat.lt_irrefl _)
  ·exact n q
 refine lU (B:=hideAll s1.heap (a::fs)) (d:=some dx) (cls:=.ref C) (a0:=.ref t) I.ok.frames Qm rfl XG nB h1 h4 h2 h3 rfl rfl λg x up=>?_
 refine⟨a,.ref C,.ref t,_,some dx,yN H1 a,rfl,I.os,I.bare,⟨x,⟨λb ob e n hb _=>x.st b ob (Ih b ob (bs.keep b ob e n hb (by simp)) (IL b ob e) (old b ob e hb)),λb ob e n hb _=>?_,λb ob e n _=>?_,λb ob e _=>?_,λb xs e=>?_,λb ob u e=>?_,λb ps e=>?_⟩,
  λb ob e n hb=>Ih b ob (bs.keep b ob e n hb (by simp)) (IL b ob e) (old b ob e hb),λb ob e hb=>?_,λb u e=>?_,j3 _ _⟩,hE⟩
 ·obtain⟨sl,e1⟩:=bs.slot b ob e n hb (by simp);obtain⟨Hv,e2⟩:=up b _ e1 λws q=>bJ I.aaF hb e1 ws q;exact⟨Hv,e2⟩
 ·rw[fL (IL b ob e)];exact bs.free b ob e n (by simp)
 ·obtain⟨o',e1⟩:=bs.there b ob e (by simp)
  by_cases hb:b∈cW outer
  ·obtain⟨Hv,e2⟩:=up b _ e1 λws q=>bJ I.aaF hb e1 ws q;exact⟨_,e2⟩
  ·exact⟨o',x.st b o' (Ih b o' e1 (IL b ob e) (old b ob e hb))⟩
 ·have z:=bs.aaC b xs e;rw[fL λq=>by rw[q,ea] at z;cases z];exact z
 ·have z:=bs.aaB b ob u e;rw[fL λq=>by rw[q,ea] at z;cases z];exact z
 ·obtain⟨m,z⟩:=bs.aaI b ps e;exact⟨m,by rw[fL λq=>by rw[q,ea] at z;cases z];exact z⟩
 ·obtain⟨o',e1⟩:=bs.there b ob e (by simp);exact⟨o',Ih b o' e1 (IL b ob e) (old b ob e hb)⟩
 ·have hb:b≠a:=λz=>by rw[z,j3] at e;cases e
  rw[fL hb] at e;refine(I.hok b u e).aaY (λc v hc q=>?_) (λc q=>?_) λc xs q=>?_
  ·rcases hc with rfl|hc
   ·exact Ih c v q hb (Mt c u e)
   ·exact Ih c v q (λz=>by rw[z,ea] at hc;cases hc) (Mt c _ hc)
  ·rw[fL λz=>by rw[z,ea] at q;cases q];exact q
  ·rw[fL λz=>by rw[z,ea] at q;cases q];exact q
end
noncomputable def gz (C:Addr)(f:Str):Sp:=λvs H Q _=>∃(a:Addr)(x:V),vs=[.ref a,x]/\H a=some (pS a (.ref C))/\∀dx,H dx=none->dx≠a->Q .non (upd (upd H dx (gA dx [(f,x)])) a (eU a (.ref C) dx true))
structure IK (P:vQ)(w:World)(K:Frag)(mg:FA)(base:Heap)(x:Str)(C:Addr)(ps:wk)(sp:Sp):Prop where
 m:mg x=some (.ref C)
 kp:keepIn K (.ref C)=true
 s:ze K C
 k:p3 K C
 tc:eF K C
 call:∃f fd oI B Bn newId JW F6 JV,ExcBaseFacts Bn newId JW JV/\F6.contains (.type Bn)=true/\xG B F6/\nU K C f F6 newId=true/\K.lookup f=some oI/\oI.cls=.type "function"/\Bu P w K mg base (aS P w) 1 f fd ps sp/\aA K fd ps []
noncomputable def never:XK:=λ_ _ _=>False
section
variable {X:Cx}{x:Str}{C:Addr}{ps:wk}{sp:Sp}{e:Expr}{es:Bo}{t:TA}{p pos:Pos}{H:Hp}{Q:VK}{fld:Str}{v:V}
theorem IK.acs (k:IK X.prog X.w X.K X.mg X.base x C ps sp)(hr:om 2 X.A):bZ X (.ref C) (pG C sp never):=by
 obtain⟨f,fd,oI,B,Bn,nw,JW,F6,JV,a1,a2,a3,a4,a5,a6,a7,a8⟩:=k.call;exact vE a1 a2 a3 a4 a5 a6 a7 hr a8 ag
theorem DO (k:IK X.prog X.w X.K X.mg X.base x C ps sp)(hr:om 2 X.A)(hg:Gl X x)(ha:PA X (e::es) t)(hs:gO e=false:=by rfl)(Gw:(backTo pos (starEach es X.env)).any (·.1)=false:=by rfl)(GY:(x==("__debug__":Str))=false:=by decide):
 PE X (.Call (.Name x p) (e::es) [] pos) (D4 (pG C sp never) t):=xP (k.acs hr) k.kp hg k.m ha GY (cx hs) Gw
theorem Do (h:∀a dx,H a=none->H dx=none->dx≠a->Q (.ref a) (upd (upd H dx (gA dx [(fld,v)])) a (eU a (.ref C) dx true))):pG C (gz C fld) never [v] H Q:=by
 refine⟨(by decide:(1:Nat)<=sizeLine),λa ha=>⟨a,v,rfl,ae,λdx hn ne=>⟨rfl,?_⟩⟩⟩;rw[ai ne] at hn;have z:=h a dx ha hn ne
 have c:upd (upd (upd H a (pS a (.ref C))) dx (gA dx [(fld,v)])) a (eU a (.ref C) dx true)=upd (upd H dx (gA dx [(fld,v)])) a (eU a (.ref C) dx true):=by
  funext b
  by_cases h2:b=a
  ·subst h2;rw[ae,ae]
  ·rw[ai h2,ai h2]
   by_cases h1:b=dx
   ·subst h1;rw[ae,ae]
   ·rw[ai h1,ai h1,ai h2]
 rw[c];exact z
theorem Dx {K:Frag}{E:XK}{H₀:Hp}(hk:p3 K C)(ht:eF K C)(h0:∀a,H a=none->H₀ a=none)(h:∀dx,H dx=none->E (.ref C) (some dx) (upd H dx (gA dx [(fld,v)]))):
 pG C (gz C fld) never [v] H λx H1=>∃a C' dx,x=.ref a/\H1 a=some (eU a (.ref C') dx true)/\p3 K C'/\eF K C'/\H₀ a=none/\E (.ref C') (some dx) (yN H1 a):=by
 refine Do λa dx ha hd ne=>⟨a,C,dx,rfl,ae,hk,ht,h0 a ha,?_⟩
 have c:yN (upd (upd H dx (gA dx [(fld,v)])) a (eU a (.ref C) dx true)) a=upd H dx (gA dx [(fld,v)]):=by
  funext b
  by_cases h2:b=a
  ·subst h2;rw[j3,ai (Ne.symm ne),ha]
  ·rw[fL h2,ai h2]
 rw[c];exact h dx hd
end
end L2
namespace K24
open PySem L2 PySem.W Nm Srt
noncomputable def df (p:Int)(a:Int×Int)(x:(Int×Int)×(Int×Int)):Int×Int:=dZ p a (gM p x.1 x.2)
noncomputable def eG (p:Int)(l:List ((Int×Int)×(Int×Int))):Int×Int:=l.foldl (df p) (0,1)
noncomputable def fO (b w:Int)(x:(Int×Int)×(Int×Int)):Int:=b.fdiv x.1.2*x.1.1*w.fdiv x.2.2*x.2.1
noncomputable def yK (b w:Int)(l:List ((Int×Int)×(Int×Int))):Int:=(l.map (fO b w)).sum
theorem qv (p:Int)(l:List ((Int×Int)×(Int×Int)))(x:(Int×Int)×(Int×Int)):eG p (l++[x])=df p (eG p l) x:=by
 unfold eG;rw[List.foldl_append];rfl
theorem ku {p:Int}{a:Int×Int}{x:(Int×Int)×(Int×Int)}(hp:0<=p)(ha:Num p a.1 a.2)(h1:Num p x.1.1 x.1.2)(h2:Num p x.2.1 x.2.2):Num p (df p a x).1 (df p a x).2:=by
 have h3:=jO hp h1 h2;refine Num.set hp ?_;have:=ha.pos;have:=h3.pos;exact Int.mul_ne_zero (by omega) (by omega)
theorem tK {b n:Int}(hn:0<n)(h:n ∣ b):∃k,b=n*k/\b.fdiv n=k:=by
 obtain⟨k,hk⟩:=h;refine⟨k,hk,?_⟩;rw[Int.fdiv_eq_ediv_of_nonneg _ (Int.le_of_lt hn)];exact Int.ediv_eq_of_eq_mul_right (by omega) hk
theorem lW {b w:Int}:∀(l:List ((Int×Int)×(Int×Int)))(a:Int×Int)(T:Int),Num 0 a.1 a.2->a.1*(b*w)=a.2*T->(∀x∈l,Num 0 x.1.1 x.1.2/\Num 0 x.2.1 x.2.2/\x.1.2 ∣ b/\x.2.2 ∣ w) →
 (l.foldl (df 0) a).1*(b*w)=(l.foldl (df 0) a).2*(T+yK b w l)
 |[],a,T,_,h,_=>by
  show a.1*(b*w)=a.2*(T+0);rw[Int.add_zero];exact h
 |x::l,a,T,na,h,hl=>by
  obtain⟨n1,n2,d1,d2⟩:=hl x List.mem_cons_self;have nm:=jO (p:=0) (Int.le_refl 0) n1 n2;have ns:=ku (p:=0) (Int.le_refl 0) na n1 n2
  have step:(df 0 a x).1*(b*w)=(df 0 a x).2*(T+fO b w x):=by
   obtain⟨k,ek,fk⟩:=tK n1.pos d1;obtain⟨m,em,fm⟩:=tK n2.pos d2;have e1:(gM 0 x.1 x.2).1*(x.1.2*x.2.2)=x.1.1*x.2.1*(gM 0 x.1 x.2).2:=my (Int.mul_ne_zero (by have:=n1.pos;omega) (by have:=n2.pos;omega));have e2:(df 0 a x).1*(a.2*(gM 0 x.1 x.2).2)=(a.1*(gM 0 x.1 x.2).2+(gM 0 x.1 x.2).1*a.2)*(df 0 a x).2:=my (Int.mul_ne_zero (by have:=na.pos;omega) (by have:=nm.pos;omega))
   have e3:fO b w x=k*x.1.1*m*x.2.1:=by unfold fO;rw[fk,fm]
   rw[e3];have hz:a.2*(gM 0 x.1 x.2).2≠0:=Int.mul_ne_zero (by have:=na.pos;omega) (by have:=nm.pos;omega);refine Int.eq_of_mul_eq_mul_right hz ?_;generalize (gM 0 x.1 x.2).1=y1 at *;generalize (gM 0 x.1 x.2).2=y2 at *;generalize (df 0 a x).1=z1 at *;generalize (df 0 a x).2=z2 at *;generalize a.1=a1 at *;generalize a.2=a2 at *;generalize x.1.1=u1 at *;generalize x.1.2=u2 at *;generalize x.2.1=v1 at *;generalize x.2.2=v2 at *;clear d1 d2 fk fm e3 hz nm ns na n1 n2 hl;subst ek;subst em;grind
  have:=lW l (df 0 a x) (T+fO b w x) ns step λy hy=>hl y (List.mem_cons_of_mem _ hy);show(l.foldl (df 0) (df 0 a x)).1*(b*w)=(l.foldl (df 0) (df 0 a x)).2*(T+(fO b w x+yK b w l));rw[<-Int.add_assoc];exact this
variable {p:Int}
theorem ui (hp:2<=p):∀(l:List ((Int×Int)×(Int×Int)))(a:Int×Int)(T:Int),Num p a.1 a.2->a.1%p=T%p->(∀x∈l,Num p x.1.1 x.1.2/\Num p x.2.1 x.2.2) →
 (l.foldl (df p) a).1%p=(T+yK 1 1 l)%p
 |[],a,T,_,h,_=>by
  show a.1%p=(T+0)%p;rw[Int.add_zero];exact h
 |x::l,a,T,na,h,hl=>by
  have pz:p≠0:=by omega
  obtain⟨n1,n2⟩:=hl x List.mem_cons_self;have nm:=jO (p:=p) (by omega) n1 n2;have ns:=ku (p:=p) (by omega) na n1 n2
  have step:(df p a x).1%p=(T+fO 1 1 x)%p:=by
   have e1:(df p a x).1=(a.1*(gM p x.1 x.2).2+(gM p x.1 x.2).1*a.2)%p:=by
    show dG p _ _=_;unfold dG;rw[if_neg pz];rfl
   have e2:(gM p x.1 x.2).1=(x.1.1*x.2.1)%p:=by
    show dG p _ _=_;unfold dG;rw[if_neg pz];rfl
   have e3:fO 1 1 x=x.1.1*x.2.1:=by
    unfold fO;rw[(n1.pr pz).1,(n2.pr pz).1];show(1:Int)*x.1.1*1*x.2.1=_;rw[Int.one_mul,Int.mul_one]
   rw[e1,(nm.pr pz).1,(na.pr pz).1,e2,e3,Int.mul_one,Int.mul_one,Int.emod_emod,Int.add_emod,h,Int.emod_emod,<-Int.add_emod]
  have:=ui hp l (df p a x) (T+fO 1 1 x) ns step λy hy=>hl y (List.mem_cons_of_mem _ hy);show(l.foldl (df p) (df p a x)).1%p=(T+(fO 1 1 x+yK 1 1 l))%p;rw[<-Int.add_assoc];exact this
theorem tL (hp:0<=p):∀(l:List ((Int×Int)×(Int×Int)))(a:Int×Int),Num p a.1 a.2->(∀x∈l,Num p x.1.1 x.1.2/\Num p x.2.1 x.2.2)->Num p (l.foldl (df p) a).1 (l.foldl (df p) a).2
 |[],a,na,_=>na
 |x::l,a,na,hl=>tL hp l (df p a x) (ku hp na (hl x List.mem_cons_self).1 (hl x List.mem_cons_self).2) λy hy=>hl y (List.mem_cons_of_mem _ hy)
theorem tP:∀(ns:List (Int×Int)),(∀n∈ns,n.2=1)->gc ns=1:=by
 have key:∀(ns:List (Int×Int)),(∀n∈ns,n.2=1)->ns.foldl xj 1=1:=by
  intro ns
  induction ns with
  |nil=>intro _;rfl
  |cons n ns ih =>
   intro h
   have e:xj 1 n=1:=by
    unfold xj;rw[h n List.mem_cons_self];rfl
   rw[List.foldl_cons,e];exact ih λm hm=>h m (List.mem_cons_of_mem _ hm)
 exact key
theorem fX (hp:FP p):Num p 0 1:=⟨by decide,by simp,λz=>⟨rfl,by omega,by have:=hp.two z;omega⟩⟩
structure Dt (p:Int)(l:List ((Int×Int)×(Int×Int))):Prop where
 len:l.length<=5
 num:∀x∈l,Gn p 300 x.1/\Gn p 300 x.2
variable {l:List ((Int×Int)×(Int×Int))}
theorem Dt.fst (h:Dt p l):lG (l.map (·.1)):=⟨by rw[List.length_map];exact h.len,λn hn=>by
 obtain⟨x,hx,rfl⟩:=List.mem_map.mp hn
 exact⟨(h.num x hx).1.1.pos,(h.num x hx).1.2.2⟩⟩
theorem Dt.snd (h:Dt p l):lG (l.map (·.2)):=⟨by rw[List.length_map];exact h.len,λn hn=>by
 obtain⟨x,hx,rfl⟩:=List.mem_map.mp hn
 exact⟨(h.num x hx).2.1.pos,(h.num x hx).2.2.2⟩⟩
theorem Dt.one (h:Dt p l)(z:p≠0):gc (l.map (·.1))=1/\gc (l.map (·.2))=1:=by
 refine⟨tP _ λn hn=>?_,tP _ λn hn=>?_⟩
 ·obtain⟨x,hx,rfl⟩:=List.mem_map.mp hn;exact((h.num x hx).1.1.pr z).1
 ·obtain⟨x,hx,rfl⟩:=List.mem_map.mp hn;exact((h.num x hx).2.1.pr z).1
theorem xJ (hp:FP p)(h:Dt p l):
 (p=0->de (yK (gc (l.map (·.1))) (gc (l.map (·.2))) l) (gc (l.map (·.1))*gc (l.map (·.2)))=(eG p l).1/\cm (yK (gc (l.map (·.1))) (gc (l.map (·.2))) l) (gc (l.map (·.1))*gc (l.map (·.2)))=(eG p l).2) /\
 (p≠0->yK 1 1 l%p=(eG p l).1/\(eG p l).2=1):=by
 obtain⟨b1,b2,_⟩:=h.fst.ok;obtain⟨c1,c2,_⟩:=h.snd.ok;have nd:Num p (eG p l).1 (eG p l).2:=tL hp.nn l (0,1) (fX hp) λx hx=>⟨(h.num x hx).1.1,(h.num x hx).2.1⟩;refine⟨λz=>?_,λz=>?_⟩
 ·subst z;have cr:=lW (b:=gc (l.map (·.1))) (w:=gc (l.map (·.2))) l (0,1) 0 (fX hp) (by simp) λx hx=>⟨(h.num x hx).1.1,(h.num x hx).2.1,b2 _ (List.mem_map_of_mem hx),c2 _ (List.mem_map_of_mem hx)⟩;rw[Int.zero_add] at cr;have hz:gc (l.map (·.1))*gc (l.map (·.2))≠0:=Int.mul_ne_zero (by omega) (by omega)
  obtain⟨g1,g2⟩:=BE (p:=0) (t:=yK (gc (l.map (·.1))) (gc (l.map (·.2))) l) hz nd (Int.le_refl 0) (λ_=>by
   rw[Int.mul_comm (yK _ _ l)]
   exact cr.symm) λz=>absurd rfl z
  exact⟨g1,g2⟩
 ·obtain⟨_,p2,_⟩:=hp.two z;obtain⟨q1,q2,q3⟩:=nd.pr z;have md:=ui p2 l (0,1) 0 (fX hp) rfl λx hx=>⟨(h.num x hx).1.1,(h.num x hx).2.1⟩;rw[Int.zero_add] at md;refine⟨?_,q1⟩;rw[<-md];exact Int.emod_eq_of_lt q2 q3
theorem BX (h:Dt p l){x:(Int×Int)×(Int×Int)}(hx:x∈l):
 B 1501 ((gc (l.map (·.1))).fdiv x.1.2)/\B 1501 ((gc (l.map (·.2))).fdiv x.2.2):=by
 obtain⟨b1,b2,b3⟩:=h.fst.ok;obtain⟨c1,c2,c3⟩:=h.snd.ok;refine⟨b3.le ?_,c3.le ?_⟩
 ·rw[Int.fdiv_eq_ediv_of_nonneg _ (Int.le_of_lt (h.num x hx).1.1.pos)];exact Int.natAbs_ediv_le_natAbs _ _
 ·rw[Int.fdiv_eq_ediv_of_nonneg _ (Int.le_of_lt (h.num x hx).2.1.pos)];exact Int.natAbs_ediv_le_natAbs _ _
end K24
namespace L2
open PySem PySem.W
noncomputable def zM (K:Frag):List V->Hp->VK->Prop:=λxs H Q=>∃p ys,xs=[.ref p]/\(aY K H p ys\/bf K H p ys)/\Q (.int ys.length) H
section
variable {X:Cx}
theorem iY {K:Frag}(hK:X.K=K):bZ X (.builtin "len") (zM K):=by subst hK;exact bU
theorem tG {K:Frag}(hK:X.K=K):Ds X (BB K):=by subst hK;exact bw
variable {tg l:Expr}{tl:TE}
end
open PySem.Spec PyProof.Rows
section
variable {X:Cx}
noncomputable def Bk (K:PySem.W.Frag):R2:=λx y H Q=>∃p q xs,x=.ref p/\y=.ref q/\aY K H p xs/\aY K H q []/\Q (.bl (!decide (xs=[]))) H
theorem xy {k:Nat}(hr:om k X.A):fu X (compareOp .NotEq) (Bk X.K):=by
 intro pins s σ H x y v u Q I rx ry h;obtain⟨p,q,xs,rfl,rfl,h1,h2,w⟩:=h
 by_cases e:xs=[]
 ·subst e;refine vW hr pins s σ H _ _ v u Q I rx ry ⟨.lst [],.lst [],?_,?_,by decide,w⟩
  ·unfold aH;exact⟨p,[],rfl,h1,by unfold bh;rfl⟩
  ·unfold aH;exact⟨q,[],rfl,h2,by unfold bh;rfl⟩
 ·cases(show v=Value.ref p from rx)
  cases(show u=Value.ref q from ry)
  obtain⟨its,r1,p1,_⟩:=I.list h1;obtain⟨FK,r2,p2,_⟩:=I.list h2
  cases r2
  have hl:=r1.length;have hx:xs.length≠0:=λz=>e (List.eq_nil_of_length_eq_zero z)
  have hs:(its.toArray.size != ([]:qw).toArray.size)=true:=by
   have:its.toArray.size≠0:=by rw[List.size_toArray];omega
   simpa using this
  exact SeqAt.RcNeAt.lists_lengths p1.isList p2.isList hs hr.ab9 X.prog X.w X.xe _ ⟨.bl true,H,I,rfl,by simpa[e] using w⟩
end
end L2
namespace K24
open PySem L2 PySem.W Nm Srt
noncomputable abbrev D9:Stmt:=(aV 46)
noncomputable abbrev C4:Stmt:=br (aV 10) 0
theorem C3:uZ Fv Fv (ao C4):=d8 (by decide +kernel)
theorem uN:uZ ["worths","one","product","number","bottom","worth_bottom","total"] yd (ao D9):=d8 (by decide +kernel)
structure HW (H:Hp)(wd:Addr)(d:List Tm):Prop where
 e:∃o FF,H wd=some (k9 o FF)/\DR H FF d
 nd:(d.map (·.1)).Nodup
variable {d:List Tm}
theorem HW.same {H H':Hp}{wd:Addr}(h:HW H wd d)(s:ay H H'):HW H' wd d:=let⟨⟨o,FF,e,r⟩,n⟩:=h;⟨⟨o,FF,s _ _ e,r.keep (az.of s)⟩,n⟩
theorem HW.get {H:Hp}{wd pr:Addr}(h:HW H wd d){k:List Int}(Gb:H pr=some (.tup (k.map V.int))):∃o,fM H wd (.ref pr) o/\((∀e∈d,e.1≠k)->o=none)/\∀n,(k,n)∈d->∃a,o=some (.ref a)/\H a=some (bE n.1 n.2):=by
 obtain⟨⟨o,FF,e,r⟩,nd⟩:=h;refine⟨fG FF (dR k),.inr ⟨FF,dR k,pr,.inr ⟨o,e⟩,rfl,(by rw[fQ];exact Gb),rfl⟩,λh=>qu k r ?_,λn hn=>?_⟩
 ·rw[List.any_eq_false];intro e he;simpa using h e he
 ·obtain⟨e',m,z,a,h1,h2⟩:=iH k r (List.any_eq_true.mpr ⟨(k,n),hn,by simp⟩);have:e'=(k,n):=eZ nd m hn z;subst this;exact⟨a,h1,h2⟩
noncomputable abbrev AV (CN:Addr)(H:Hp)(E:XK)(k:List Int):Prop:=∀d pr H',ay H H'->H' d=some (gA d [("product",.ref pr)])->H' pr=some (.tup (k.map V.int))->E (.ref CN) (some d) H'
noncomputable abbrev AI (d:List Tm)(ts:List Tm)(l:List ((Int×Int)×(Int×Int))):Prop:=Paired (λ(t:Tm)(x:(Int×Int)×(Int×Int))=>x.1=t.2/\(t.1,x.2)∈d) ts l
theorem AI.fst :∀{ts:List Tm}{l:List ((Int×Int)×(Int×Int))},AI d ts l->ts.map (·.2)=l.map (·.1)
 |_,_,.nil=>rfl
 |_,_,.cons r t=>by rw[List.map_cons,List.map_cons,AI.fst t,r.1]
noncomputable def Bh (C CF CN:Addr):Sp:=λvs H Q E=>∃(wd s:Addr)(p:Int)(ts d:List Tm),vs=[.ref wd,.ref s]/\HW H wd d/\zU C CF H s p ts/\FP p/\ts.length<=5 /\
 ((∃l,AI d ts l/\Dt p l/\Bl H Q (eG p l).1 (eG p l).2) \/
  ∃(k:Nat)(t:Tm),ts[k]?=some t/\(∀(i:Nat)(u:Tm),i<k->ts[i]?=some u->∃n,(u.1,n)∈d)/\(∀e∈d,e.1≠t.1)/\AV CN H E t.1)
variable {P:vQ}{w:World}{K:PySem.W.Frag}{mg:FA}{base:Heap}
theorem B9 {f C:Addr}{fd:ET}(F:uB K "__init__" "NoWorth.__init__" C4 f fd)(k:ze K C)(n:cu K C "product"):Bu P w K mg base (aS P w) 1 f fd Fv (gz C "product"):=by
 refine F.okN C3 (λvs H Q E h=>?_) (λFJ A outer s H vs Q E hr h=>?_)
 ·obtain⟨a,x,rfl,_⟩:=h;rfl
 ·obtain⟨a,x,rfl,e,q⟩:=h;refine⟨_,ar (xt (pv 0) (pv 1) rfl),?_⟩;exact⟨_,rfl,_,rfl,a,C,rfl,e,k,n,q⟩
theorem C1 {f fb fc ft fs fm C CF CN NN:Addr}{fd U2 HR GA JS U3:ET}(F:uB K "worth_of" "worth_of" D9 f fd)(c:Fm K mg C)(cF:B5 K mg CF)(IM:mg "sum"=none)
 (kN:IK P w K mg base "NoWorth" CN Fv (gz CN "product"))
 (XH:Bu P w K mg base (aS P w) 3 fb U2 ["sums"] (DC C CF))(XI:L2.aA K U2 ["sums"] [])(XJ:mg "bottom_of"=some (.ref fb))(XM:keepIn K (.ref fb)=true)
 (Ra:Bu P w K mg base (aS P w) 2 fc HR ["numbers"] A8)(Rb:L2.aA K HR ["numbers"] [])(Rc:mg "common_bottom"=some (.ref fc))(Rf:keepIn K (.ref fc)=true)
 (Le:Bu P w K mg base (aS P w) 1 ft GA ["self"] (iw C CF))(Lf:L2.aA K GA ["self"] [])(Lg:L2.Meth K C "terms" ft)
 (XN:Bu P w K mg base (aS P w) 1 fs JS ["self"] (oY C CF))(XO:L2.aA K JS ["self"] [])(XQ:L2.Meth K C "field" fs)
 (XR:Bu P w K mg base (aS P w) 4 fm U3 ER (xU CF NN))(XS:L2.aA K U3 ER [])(XT:L2.Meth K CF "made" fm):Bu P w K mg base (aS P w) 5 f fd yd (Bh C CF CN):=by
 refine F.okE uN (λvs H Q E h=>?_) (λFJ A outer s H vs Q E hr h=>?_)
 ·obtain⟨wd,s,p,ts,d,rfl,_⟩:=h;rfl
 ·obtain⟨wd,s0,p,ts,d,rfl,hw,hs,hp,hlen,h⟩:=h;have FY:om 1 _:=hr.mono (by decide);have G9:om 2 _:=hr.mono (by decide);have HE:om 3 _:=hr.mono (by decide);have J0:om 4 _:=hr.mono (by decide);have hu:=(hr.units:_+64<cLine)
  replace hu:=Nat.lt_of_le_of_lt (Nat.add_le_add_left (by decide:1<=64) _) hu
  refine⟨_,(aj (c9 (by passes_own) rfl (bY (f9 (pv 1) c.cl Lg Le FY Lf .nil ag)) (cK rfl (aI (aE (i:=2) uN.nd rfl (Or.inl rfl)) (aI (aE (i:=3) uN.nd rfl (Or.inl rfl)) bX)))
   (ar (bg (oA (mX hu (pv 2) (pv 0))) (ar (uJ (R:=λ_ a C dx H1=>H a=none/\E (.ref C) (some dx) (yN H1 a)) rfl oK (DO kN G9 (by rfl) (@aq _ _ _ _ _ (pv 2) ah rfl)))) aJ)))
   (aj (@aK _ _ 4 _ _ _ _ uN.nd rfl (Or.inr rfl) (ax XH HE (by rfl) XJ XM XI .nil ag (@aq _ _ _ _ _ (@cD _ _ _ _ (@aq _ _ _ _ _ (pv 1) ah rfl)) ah rfl)) rfl (Or.inl rfl))
   (aj (@aK _ _ 5 _ _ _ _ uN.nd rfl (Or.inr rfl) (ax Ra G9 (by rfl) Rc Rf Rb .nil ag (@aq _ _ _ _ _ (dN (g:=(ji K 2 (ck (bz 0) (ck (bz 1) Ek)))) (N:=["product","number","worths"]) (nl:=2) (js:=[0]) (osc:=ao D9) ⟨rfl,rfl,by decide +kernel,by decide +kernel,by decide +kernel,rfl,(.cons ⟨rfl,by decide +kernel⟩ .nil),by decide +kernel⟩ rfl
    (bY (f9 (pv 1) c.cl Lg Le FY Lf .nil ag))
    (λCq fq sq Hq=>(cK (X:=bD _ ["product","number","worths"] _ Cq fq sq Hq) rfl (aI (aE (X:=bD _ ["product","number","worths"] _ Cq fq sq Hq) (i:=0) (by show(["product","number","worths"]:wk).Nodup;decide +kernel) rfl (Or.inl rfl) (Or.inr rfl)) (aI (aE (X:=bD _ ["product","number","worths"] _ Cq fq sq Hq) (i:=1) (by show(["product","number","worths"]:wk).Nodup;decide +kernel) rfl (Or.inl rfl) (Or.inr rfl)) bX))))
    (λCq fq sq Hq=>eR)
    (λCq fq sq Hq=>(gq hu (pv 2) (pv 0) (λ_ _=>rfl)))) ah rfl)) rfl (Or.inl rfl))
   (aj (@aK _ _ 6 _ _ _ _ uN.nd rfl (Or.inl rfl) (aF (uR rfl) (by rfl) IM (by rfl) (@aq _ _ _ _ _ (dN (g:=(ji K 2 (ck (bz 0) (ck (bz 1) Ek)))) (N:=["product","number","worths","bottom","worth_bottom"]) (nl:=2) (js:=[0,4,5]) (osc:=ao D9) ⟨rfl,rfl,by decide +kernel,by decide +kernel,by decide +kernel,rfl,(.cons ⟨rfl,by decide +kernel⟩ (.cons ⟨rfl,by decide +kernel⟩ (.cons ⟨rfl,by decide +kernel⟩ .nil))),by decide +kernel⟩ rfl
    (bY (f9 (pv 1) c.cl Lg Le FY Lf .nil ag))
    (λCq fq sq Hq=>(cK (X:=bD _ ["product","number","worths","bottom","worth_bottom"] _ Cq fq sq Hq) rfl (aI (aE (X:=bD _ ["product","number","worths","bottom","worth_bottom"] _ Cq fq sq Hq) (i:=0) (by show(["product","number","worths","bottom","worth_bottom"]:wk).Nodup;decide +kernel) rfl (Or.inl rfl) (Or.inr rfl)) (aI (aE (X:=bD _ ["product","number","worths","bottom","worth_bottom"] _ Cq fq sq Hq) (i:=1) (by show(["product","number","worths","bottom","worth_bottom"]:wk).Nodup;decide +kernel) rfl (Or.inl rfl) (Or.inr rfl)) bX))))
    (λCq fq sq Hq=>eR)
    (λCq fq sq Hq=>(@aD _ _ _ _ _ _ _ _ cz (@aD _ _ _ _ _ _ _ _ cz (@aD _ _ _ _ _ _ _ _ cz (@aD _ _ _ _ _ _ _ _ cT (pv 3) (@aX _ _ _ _ _ _ _ (tG (K:=K) rfl) (pv 1) ak (λ_ _=>rfl))) (@aX _ _ _ _ _ _ _ (tG (K:=K) rfl) (pv 1) ak (λ_ _=>rfl))) (@aD _ _ _ _ _ _ _ _ cT (pv 4) (@aX _ _ _ _ _ _ _ (tG (K:=K) rfl) (gq hu (pv 2) (pv 0) (λ_ _=>rfl)) ak (λ_ _=>rfl)))) (@aX _ _ _ _ _ _ _ (tG (K:=K) rfl) (gq hu (pv 2) (pv 0) (λ_ _=>rfl)) ak (λ_ _=>rfl))))) ah rfl)) rfl (Or.inl rfl))
   (ar (aB (il (f9 (pv 1) c.cl XQ XN FY XO .nil ag) cF.cl XT XR J0 XS .nil ag (@aq _ _ _ _ _ (pv 6) (@aq _ _ _ _ _ (@aD _ _ _ _ _ _ _ _ cz (pv 4) (pv 5)) ah rfl) rfl)))))))),?_⟩
  obtain⟨dx,fl,F3,Dd,zs,h1,h2,h3,h4⟩:=hs.ex;have zl:=h4.length
  have h:∃k,k<=ts.length/\(∀(i:Nat)(u:Tm),i<k->ts[i]?=some u->∃n,(u.1,n)∈d)/\((k=ts.length/\∃l,AI d ts l/\Dt p l/\Bl H Q (eG p l).1 (eG p l).2)\/∃t:Tm,ts[k]?=some t/\(∀e∈d,e.1≠t.1)/\AV CN H E t.1):=by
   rcases h with⟨l,wl,ok,q⟩|⟨k,t,et,a,b,q⟩
   ·refine⟨ts.length,Nat.le_refl _,λi u hi eu=>?_,.inl ⟨rfl,l,wl,ok,q⟩⟩;obtain⟨x,_,_,m⟩:=aL wl eu;exact⟨_,m⟩
   ·exact⟨k,Nat.le_of_lt (List.getElem?_eq_some_iff.mp et).1,a,.inr ⟨t,et,b,q⟩⟩
  obtain⟨k,hk,Lh,h⟩:=h;refine⟨_,rfl,s0,dx,_,rfl,h1,rfl,s0,dx,fl,Dd,zs,rfl,h1,h3,λq0 Rg=>⟨q0,rfl,⟨zs,aY.of ae⟩,?_⟩⟩;refine⟨λi m σ' H'=>m=ts.length-i/\i<=k/\ay H H'/\H' q0=some (.lst zs)/\∃o2 o3,σ'=[some (.ref wd),some (.ref s0),o2,o3,none,none,none],⟨ts.length,by simp,Nat.zero_le _,au Rg,ae,none,none,rfl⟩,?_⟩;rintro i m σ' H' ⟨rfl,hi,sH,hq,o2,o3,rfl⟩
  by_cases FO:i<ts.length
  ·have Rh:i<zs.length:=by omega
   refine .inr ⟨⟨zs,zs[i],aY.of hq,by simp[Rh]⟩,λσ' H'=>i+1<=k/\ay H H'/\H' q0=some (.lst zs)/\∃o2 o3,σ'=[some (.ref wd),some (.ref s0),o2,o3,none,none,none],?_,λy H2 hy=>?_⟩
   ·rintro σ' H' ⟨g1,g2,g3,g4⟩;exact⟨ts.length-(i+1),by omega,rfl,g1,g2,g3,g4⟩
   ·obtain⟨rfl,hy⟩:=hy;obtain⟨t,et,a,pr,nu,rfl,ha,Gb,He⟩:=aL (bR.keep h4 (az.of sH)) (hy zs (aY.of hq));refine⟨a,_,rfl,bf.of ha,rfl,_,_,rfl,_,_,rfl,rfl,?_⟩;obtain⟨o,dg,no,yes⟩:=(hw.same sH).get Gb;refine⟨_,rfl,_,rfl,wd,o,rfl,dg,_,rfl,?_⟩
    by_cases Pn:i<k
    ·obtain⟨n,hn⟩:=Lh i t Pn et;obtain⟨a',rfl,_⟩:=yes n hn;exact b8 ⟨Pn,sH,hq,_,_,rfl⟩
    ·have ei:i=k:=by omega
     rcases h with⟨h,_⟩|⟨t',Pr,GJ,q⟩
     ·omega
     ·have e2:t=t':=by rw[<-ei,et] at Pr;exact Option.some.inj Pr
      subst e2
      cases(no GJ)
      refine cb ⟨_,rfl,Dx kN.k kN.tc (λa ha=>none_of sH ha) λdx hd=>?_⟩;exact q dx pr _ (sH.trans (au hd)) ae (au hd _ _ Gb)
  ·refine .inl ⟨⟨zs,aY.of hq,by omega⟩,?_⟩
   rcases h with⟨_,l,wl,ok,q⟩|⟨t',Pr,_⟩
   ·have ll:=wl.length;have ef:=AI.fst wl
    have pos:lG (ts.map (·.2)):=by rw[ef];exact ok.fst
    obtain⟨b1,b2,b3⟩:=ok.fst.ok;obtain⟨c1,c2,c3⟩:=ok.snd.ok;have md:=xJ hp ok;refine⟨_,rfl,A5,λL hL=>?_⟩;have sL:=au (o:=.lst [.ref s0]) hL;have s1:ay H (upd H' L (.lst [.ref s0])):=sH.trans sL;refine⟨L,s0,p,ts,rfl,ae,⟨dx,fl,F3,Dd,zs,s1 _ _ h1,s1 _ _ h2,s1 _ _ h3,bR.keep h4 (az.of s1)⟩,pos,λH2 s2=>?_⟩;rw[ef];have s3:ay H H2:=s1.trans s2;refine⟨_,rfl,s0,dx,_,rfl,s3 _ _ h1,rfl,s0,dx,fl,Dd,zs,rfl,s3 _ _ h1,s3 _ _ h3,λq1 XU=>⟨q1,rfl,⟨zs,aY.of ae⟩,?_⟩⟩;refine iL (a:=q1) (xs:=zs) (rest:=[some (.ref wd)]) (λi ys H'=>ay H H'/\H' q1=some (.lst zs)/\nW H' ys ((l.map (·.2)).take i)) ⟨s3.trans (au XU),ae,.nil⟩ (λi ys H' hi GB=>?_) (λi x ys H' hi ex GB=>?_) (λys H' GB=>?_)
    ·obtain⟨_,g2,g3⟩:=GB;refine⟨?_,aY.of g2⟩;rw[g3.length,List.length_take,List.length_map];exact Nat.lt_of_le_of_lt (by omega:_<=5) (by decide)
    ·obtain⟨g1,g2,g3⟩:=GB;obtain⟨t,et,a,pr,nu,rfl,ha,Gb,He⟩:=aL (bR.keep h4 (az.of g1)) ex;obtain⟨x,Pu,e1,m⟩:=aL wl et;obtain⟨o,dg,no,yes⟩:=(hw.same g1).get Gb;obtain⟨aw,rfl,LV⟩:=yes x.2 m;refine⟨a,.ref pr,.ref nu,rfl,bf.of ha,λN hN=>zh ⟨_,rfl,_,rfl,wd,.ref aw,rfl,dg,hN _ _ ⟨g1,g2,?_⟩⟩⟩
     have e:(l.map (·.2)).take (i+1)=(l.map (·.2)).take i++[x.2]:=by rw[List.take_add_one,List.getElem?_map,Pu];rfl
     rw[e];exact Paired.snoc g3 ⟨aw,rfl,LV⟩
    ·obtain⟨g1,g2,g3⟩:=GB;intro D hD;rw[List.take_of_length_le (by rw[List.length_map];omega)] at g3;have s4:=g1.trans (au (o:=.lst ys) hD);refine⟨D,ys,_,rfl,ae,nW.keep g3 (az.of (au hD)),ok.snd,?_⟩;have tB:=λx hx=>BX (x:=x) ok hx;have one:=λz=>ok.one z;generalize hb:gc (l.map (·.1))=bb at *;generalize hc:gc (l.map (·.2))=cc at *;refine⟨_,rfl,s0,dx,_,rfl,s4 _ _ h1,rfl,s0,dx,fl,Dd,zs,rfl,s4 _ _ h1,s4 _ _ h3,λq2 XW=>⟨q2,rfl,⟨zs,aY.of ae⟩,?_⟩⟩;refine iL (a:=q2) (xs:=zs) (rest:=[some (.ref wd),some (.int bb),some (.int cc)]) (λi ys H'=>ay H H'/\H' q2=some (.lst zs)/\ys=((l.map (fO bb cc)).take i).map V.int) ⟨s4.trans (au XW),ae,rfl⟩ (λi ys H' hi GB=>?_) (λi x ys H' hi ex GB=>?_) (λys H' GB=>?_)
     ·obtain⟨_,g2,g3⟩:=GB;refine⟨?_,aY.of g2⟩;rw[g3,List.length_map,List.length_take,List.length_map];exact Nat.lt_of_le_of_lt (by omega:_<=5) (by decide)
     ·obtain⟨g1,g2,g3⟩:=GB;obtain⟨t,et,a,pr,nu,rfl,ha,Gb,He⟩:=aL (bR.keep h4 (az.of g1)) ex;obtain⟨x,Pu,e1,m⟩:=aL wl et;obtain⟨o,dg,no,yes⟩:=(hw.same g1).get Gb;obtain⟨aw,rfl,LV⟩:=yes x.2 m;have xm:x∈l:=List.mem_of_getElem? Pu;obtain⟨t1,t2⟩:=tB x xm;obtain⟨gn,gw⟩:=ok.num x xm;rw[<-e1] at He;have n1:=gn.ne;have n2:=gw.ne;have B1:B 1801 (bb.fdiv x.1.2*x.1.1):=t1.mul gn.2.1;have B2:B 3302 (bb.fdiv x.1.2*x.1.1*cc.fdiv x.2.2):=B1.mul t2;refine⟨a,.ref pr,.ref nu,rfl,bf.of ha,λN hN=>zh ?_⟩;refine⟨_,rfl,_,rfl,nu,_,1,_,rfl,rfl,bf.of He,a1 _ _,_,_,rfl,rfl,⟨n1,gn.2.2.mono (by decide)⟩,_,rfl,nu,_,0,_,rfl,rfl,bf.of He,a0 _ _,_,_,rfl,rfl,⟨t1.mono (by decide),gn.2.1.mono (by decide)⟩,?_⟩;refine⟨_,rfl,_,rfl,_,rfl,wd,.ref aw,rfl,dg,aw,_,1,_,rfl,rfl,bf.of LV,a1 _ _,_,_,rfl,rfl,⟨n2,gw.2.2.mono (by decide)⟩,_,_,rfl,rfl,⟨B1.mono (by decide),t2.mono (by decide)⟩,?_⟩;refine⟨_,rfl,_,rfl,wd,.ref aw,rfl,dg,aw,_,0,_,rfl,rfl,bf.of LV,a0 _ _,_,_,rfl,rfl,⟨B2.mono (by decide),gw.2.1.mono (by decide)⟩,hN _ _ ⟨g1,g2,?_⟩⟩
      have e:(l.map (fO bb cc)).take (i+1)=(l.map (fO bb cc)).take i++[fO bb cc x]:=by rw[List.take_add_one,List.getElem?_map,Pu];rfl
      rw[e,List.map_append,g3];rfl
     ·obtain⟨g1,g2,g3⟩:=GB;intro D2 HU;rw[List.take_of_length_le (by rw[List.length_map];omega)] at g3;subst g3;refine⟨D2,l.map (fO bb cc),rfl,aY.of ae,?_⟩;have s5:=g1.trans (au (o:=.lst ((l.map (fO bb cc)).map V.int)) HU);refine⟨_,rfl,s0,dx,_,rfl,s5 _ _ h1,rfl,s0,dx,fl,Dd,rfl,s5 _ _ h1,fl,F3,_,rfl,s5 _ _ h2,rfl,?_⟩;refine⟨_,rfl,_,rfl,_,rfl,_,_,rfl,rfl,⟨b3.mono (by decide),c3.mono (by decide)⟩,?_⟩;refine⟨fl,F3,p,.int (yK bb cc l),.int (bb*cc),"int","int",rfl,s5 _ _ h2,.int _,.int _,λt b et eb=>?_,λz=>by cases z⟩
      cases et
      cases eb
      have nz:bb*cc≠0:=Int.mul_ne_zero (by omega) (by omega);refine⟨fl,F3,p,_,_,rfl,s5 _ _ h2,hp,(b3.mul c3).mono (by decide),λ_ z=>absurd z nz,λz _ a ha=>?_,λz y=>?_,λz _ v v0 v1 v2 a ha=>?_⟩
      ·obtain⟨m1,m2⟩:=md.1 z;rw[m1,m2];exact q.of s5 a ha
      ·obtain⟨o1,o2⟩:=one z;subst o1;subst o2;obtain⟨_,p2,_⟩:=hp.two z;have:((1:Int)*1)%p=1:=Int.emod_eq_of_lt (by decide) (by omega);rw[this] at y
       cases y
      ·obtain⟨o1,o2⟩:=one z;subst o1;subst o2;rw[Int.mul_one,Int.mul_one,Int.emod_eq_of_lt v0 v1] at v2;subst v2;obtain⟨m1,m2⟩:=md.2 z;rw[Int.mul_one,m1];have:=q.of s5 a ha;rw[m2] at this;exact this
   ·have:=(List.getElem?_eq_some_iff.mp Pr).1;omega
end K24
namespace L2
open PySem PySem.Spec PyProof.Rows PySem.W
section
variable {X:Cx}
theorem pK {H:Hp}{p:Addr}{o:HO}(h:H p=none):ay H (upd H p o):=λb u e=>by rw[ai (av e h)];exact e
noncomputable def acu:R2:=λx y H Q=>∃a b xs ys,x=.ref a/\y=.ref b/\H a=some (.tup xs)/\H b=some (.tup ys)/\xs.length+ys.length<=sizeLine/\∀p H',ay H H'->H' p=some (.tup (xs++ys))->Q (.ref p) H'
theorem zW:fu X (binaryOp .Add) acu:=by
 intro pins s σ H x y v u Q I rx ry h;obtain⟨a,b,xs,ys,rfl,rfl,ha,hb,hz,q⟩:=h
 by_cases hx:xs=[]
 ·subst hx
  cases rx
  cases ry
  obtain⟨its,r1,p1,_⟩:=I.tuple (bf.of ha);obtain⟨FK,r2,p2,_⟩:=I.tuple (bf.of hb)
  cases r1
  obtain⟨⟨cls,dd,data,sl⟩,ho,hc,n,hd⟩:=id p1;obtain⟨⟨Me,JJ,data2,Ir⟩,Jd,HM,n2,hd2⟩:=id p2;simp only at hc hd HM hd2;subst hc hd HM hd2
  exact concat_meets ⟨_,ho,rfl⟩ ⟨_,Jd,rfl⟩ noFill_tuple_add seq_tuple_add PySem.F.slot_tuple_add PySem.F.entry_tuple_add (PySem.F.args_tuple_add_2 _ _)
   (tuple_addW0 a b _ FK.toArray n n2 dd JJ sl Ir (by simp)) ⟨ho,Jd,.ref b,H,I,rfl,q b H (ay.refl _) hb⟩
 ·exact zP pins s σ H _ _ v u Q I rx ry ⟨a,b,xs,ys,rfl,rfl,bf.of ha,bf.of hb,hx,hz,λe=>q a H (ay.refl _) (by rw[e,List.append_nil];exact ha),λ_ p hp=>q p _ (pK hp) ae⟩
noncomputable def acv:R2:=λx y H Q=>∃a b xs ys,x=.ref a/\y=.ref b/\H a=some (.lst xs)/\H b=some (.lst ys)/\xs.length+ys.length<=sizeLine/\∀p H',H p=none->ay H H'->H' p=some (.lst (xs++ys))->Q (.ref p) H'
theorem yM:fu X (binaryOp .Add) acv:=by
 intro pins s σ H x y v u Q I rx ry h;obtain⟨a,b,xs,ys,rfl,rfl,ha,hb,hz,q⟩:=h;exact Bs pins s σ H _ _ v u Q I rx ry ⟨a,b,xs,ys,rfl,rfl,ha,hb,hz,λp hp=>q p _ hp (pK hp) ae⟩
end
end L2
namespace K24
open PySem L2 PySem.W Nm Srt
noncomputable abbrev Cv:Stmt:=(aV 47)
noncomputable abbrev BM:Stmt:=(aV 60)
theorem Dg:uZ CT CT (ao Cv):=d8 (by decide +kernel)
theorem sG:uZ ["_law_many","_law_most","_law_found","_law_place"] uU (ao BM):=d8 (by decide +kernel)
noncomputable def cH (i:Int)(FF:List (List Key×V)):List (List Key×V):=FF.filter λkv=>decide ((kv.1.length:Int)<=i)
theorem m4 (i:Int)(FF:List (List Key×V))(kv:List Key×V):cH i (FF++[kv])=if decide ((kv.1.length:Int)<=i)=true then cH i FF++[kv] else cH i FF:=by
 unfold cH;rw[List.filter_append]
 split
 ·rename_i h;simp[h]
 ·rename_i h;simp[h]
variable {H:Hp}
theorem oE :∀{FF:List (List Key×V)}{d:List Tm},DR H FF d->(d.map (·.1)).Nodup->(FF.map (·.1)).Nodup
 |_,_,.nil,_=>List.nodup_nil
 |_,_,.cons (a:=kv) (b:=e) r t,h=>by
  rw[List.map_cons,List.nodup_cons] at h |-;refine⟨λm=>h.1 ?_,oE t h.2⟩;obtain⟨kv',hm,ek⟩:=List.mem_map.mp m;obtain⟨j,hj⟩:=List.mem_iff_getElem?.mp hm;obtain⟨e',K8,r',_⟩:=aL t hj;have:e'.1=e.1:=fh (r'.symm.trans (ek.trans r.1));rw[<-this];exact List.mem_map_of_mem (List.mem_of_getElem? K8)
theorem iB {FF:List (List Key×V)}{k:List Key}{v:V}(h:k∉FF.map (·.1)):cg FF k v=FF++[(k,v)]:=by
 unfold cg;rw[if_neg];intro z;obtain⟨kv,hm,e⟩:=List.any_eq_true.mp z;exact h (List.mem_map.mpr ⟨kv,hm,by simpa using e⟩)
noncomputable def p5 (CN:Addr):Sp:=λvs H Q E=>∃(wd:Addr)(x:V)(T:String)(o:Obj)(FF:List (List Key×V)),vs=[.ref wd,x]/\H wd=some (k9 o FF)/\(FF.map (·.1)).Nodup/\FF.length<=1000/\Th H x T /\
 ((∃i:Int,x=.int i/\0<=i/\i<=300/\∀H' D,ay H H'->H D=none->H' D=some (.dT (cH i FF))->Q (.ref D) H')\/((∀i:Int,x=.int i->¬(0<=i/\i<=300))/\E (.ref CN) none H))
noncomputable def hJ (n:Nat):Nat->List (List Int)
 |0=>[[]]
 |m+1=>hJ n m++((hJ n m).filter λk=>decide (k.length<n)).map λk=>k++[(m:Int)]
theorem qL (n:Nat):∀m,(∀k∈hJ n m,(∀i∈k,0<=i/\i<m)/\k.length<=n)/\(hJ n m).Nodup/\(hJ n m)[0]?=some []/\(hJ n m).length<=2^m
 |0=>⟨λk hk=>by
  have:k=[]:=by simpa[hJ] using hk
  subst this
  exact And.intro (λi hi=>absurd hi (by simp)) (Nat.zero_le _),by simp[hJ],rfl,by show 1<=1;decide⟩
 |m+1=>by
  obtain⟨h1,h2,h3,h4⟩:=qL n m;refine⟨λk hk=>?_,?_,?_,?_⟩
  ·rcases List.mem_append.mp hk with hk|hk
   ·exact⟨λi hi=>by have:=(h1 k hk).1 i hi;omega,(h1 k hk).2⟩
   ·obtain⟨k0,Je,rfl⟩:=List.mem_map.mp hk;obtain⟨m0,l0⟩:=List.mem_filter.mp Je;refine⟨λi hi=>?_,?_⟩
    ·rcases List.mem_append.mp hi with hi|hi
     ·have:=(h1 k0 m0).1 i hi;omega
     ·have:i=m:=by simpa using hi
      omega
    ·have:k0.length<n:=by simpa using l0
     simp;omega
  ·show(hJ n m++_).Nodup;refine List.nodup_append.mpr ⟨h2,?_,λa ha b hb z=>?_⟩
   ·have h5:=h2.sublist (List.filter_sublist (p:=λk=>decide (k.length<n)));unfold List.Nodup at h5 |-;rw[List.pairwise_map];exact h5.imp λKY z=>KY (List.append_cancel_right z)
   ·obtain⟨k0,Je,rfl⟩:=List.mem_map.mp hb;have:=(h1 a ha).1 m (by rw[z];simp);omega
  ·show(hJ n m++_)[0]?=_
   have:0<(hJ n m).length:=by
    rcases Nat.eq_zero_or_pos (hJ n m).length with z|z
    ·rw[List.getElem?_eq_none (by omega)] at h3;cases h3
    ·exact z
   rw[List.getElem?_append_left this];exact h3
  ·show(hJ n m++_).length<=_;rw[List.length_append,List.length_map];have:=List.length_filter_le (λk=>decide (k.length<n)) (hJ n m);rw[Nat.pow_succ];omega
noncomputable def Fy (H:Hp)(y:V)(k:List Int):Prop:=∃a,y=.ref a/\H a=some (.tup (k.map V.int))
noncomputable abbrev gG (H:Hp):List V->List (List Int)->Prop:=Paired (Fy H)
theorem gG.keep {H':Hp}{ys:List V}{ks:List (List Int)}(h:gG H ys ks)(k:az H H'):gG H' ys ks:=Paired.aaW h λ_ _ ⟨a,e,z⟩=>⟨a,e,k _ _ z⟩
theorem tS :∀{xs ys:List V}{ks js:List (List Int)},gG H xs ks->gG H ys js->gG H (xs++ys) (ks++js)
 |_,_,_,_,.nil,h=>h
 |_,_,_,_,.cons r t,h=>.cons r (tS t h)
noncomputable def BW:Sp:=λvs H Q _=>∃m n:Nat,vs=[.int m,.int n]/\m<=8/\n<=8/\∀H' D ys,ay H H'->H D=none->H' D=some (.lst ys)->gG H' ys (hJ n m)->Q (.ref D) H'
variable {P:vQ}{w:World}{K:PySem.W.Frag}{mg:FA}{base:Heap}
theorem Co {f fc CN:Addr}{fd HR:ET}(F:uB K "cut" "cut" Cv f fd)(m_len:mg "len"=none)(XX:Bu P w K mg base (aS P w) 2 fc HR ["degree"] (Dc CN))(XY:L2.aA K HR ["degree"] [])(XZ:mg "checked_degree"=some (.ref fc))(X0:keepIn K (.ref fc)=true):Bu P w K mg base (aS P w) 3 f fd CT (p5 CN):=by
 refine F.okE Dg (λvs H Q E h=>?_) (λFJ A outer s H vs Q E hr h=>?_)
 ·obtain⟨wd,x,T,o,FF,rfl,_⟩:=h;rfl
 ·obtain⟨wd,x,T,o,FF,rfl,hw,nd,kl,th,h⟩:=h;have FY:om 1 _:=hr.mono (by decide);have G9:om 2 _:=hr.mono (by decide);have FR:=(hr.units:_+64<cLine)
  replace FR:=Nat.lt_of_le_of_lt (Nat.le_add_right _ 64) FR
  refine⟨_,(aj (jy (ax XX G9 (by rfl) XZ X0 XY .nil lh (@aq _ _ _ _ _ (pv 1) ah rfl)))
   (ar (aB (yD FR (g:=(ji K 2 (ck (bz 0) (ck (bz 1) Ek)))) (N:=["product","number","degree"]) (nl:=2) (js:=[1]) (osc:=ao Cv) ⟨rfl,rfl,by decide +kernel,by decide +kernel,by decide +kernel,rfl,(.cons ⟨rfl,by decide +kernel⟩ .nil),by decide +kernel⟩ rfl
    (ki (pv 0))
    (λCq fq sq Hq=>(cK (X:=bD _ ["product","number","degree"] _ Cq fq sq Hq) rfl (aI (aE (X:=bD _ ["product","number","degree"] _ Cq fq sq Hq) (i:=0) (by show(["product","number","degree"]:wk).Nodup;decide +kernel) rfl (Or.inl rfl) (Or.inr rfl)) (aI (aE (X:=bD _ ["product","number","degree"] _ Cq fq sq Hq) (i:=1) (by show(["product","number","degree"]:wk).Nodup;decide +kernel) rfl (Or.inl rfl) (Or.inr rfl)) bX))))
    (λCq fq sq Hq=>(fj (@aN _ _ _ _ _ _ _ _ me (aF (iY (K:=K) rfl) (by rfl) m_len PySem.boot_len (@aq _ _ _ _ _ (pv 0) ah rfl)) (pv 2) (aM _))))
    (λCq fq sq Hq=>(pv 0))
    (λCq fq sq Hq=>(pv 1)))))),?_⟩
  refine⟨_,rfl,x,T,rfl,th,?_⟩
  rcases h with⟨i,rfl,h0,h1,q⟩|⟨no,e⟩
  ·refine .inl ⟨i,rfl,h0,h1,?_⟩;refine⟨_,rfl,wd,FF,rfl,.inl ⟨o,hw,λD hD=>?_⟩⟩;have sD:=au (o:=.dT []) hD;refine⟨λj m σ' H'=>m=FF.length-j/\j<=FF.length/\ay H H'/\H' D=some (.dT (cH i (FF.take j)))/\∃o1 o2,σ'=[o1,o2,some (.int i)],⟨FF.length,by simp,Nat.zero_le _,sD,ae,none,none,rfl⟩,?_⟩;rintro j m σ' H' ⟨rfl,hj,sH,hd,o1,o2,rfl⟩
   by_cases FO:j<FF.length
   ·refine .inr ⟨⟨FO,sH _ _ hw⟩,λx H2 hx=>?_⟩;obtain⟨pp,b,k,v,hk,IA,hb,rfl,rfl⟩:=hx;have sP:ay H' (upd H' pp (.tup [.ref b,v])):=au IA;refine⟨pp,_,rfl,bf.of ae,rfl,_,_,rfl,_,_,rfl,rfl,?_⟩;refine⟨_,rfl,b,_,rfl,.inr (bf.of (sP _ _ hb)),_,rfl,_,_,rfl,rfl,_,rfl,?_⟩
    have Gk:FF.take (j+1)=FF.take j++[(k,v)]:=by rw[List.take_add_one,hk];rfl
    rw[List.length_map];have cs:=m4 i (FF.take j) (k,v);rw[<-Gk] at cs
    have Ri:k∉(cH i (FF.take j)).map (·.1):=λz=>by
     have z2:k∈(FF.take j).map (·.1):=(List.filter_sublist.map _).subset z
     have e2:(FF.take (j+1)).map (·.1)=(FF.take j).map (·.1)++[k]:=by rw[Gk,List.map_append];rfl
     have n2:((FF.take (j+1)).map (·.1)).Nodup:=nd.sublist ((List.take_sublist _ _).map _);rw[e2,List.nodup_append] at n2;exact n2.2.2 k z2 k (by simp) rfl
    cases hz:decide ((k.length:Int)<=i) with
    |true =>
     rw[show decide (((k,v):List Key×V).1.length<=i)=true from hz,if_pos rfl] at cs;refine cb ⟨_,rfl,_,rfl,b,k,_,rfl,sP _ _ hb,sP _ _ hd,?_,FF.length-(j+1),by omega,rfl,FO,?_,?_,_,_,rfl⟩
     ·have:(cH i (FF.take j)).length<=(FF.take j).length:=List.length_filter_le _ _;rw[List.length_take] at this;exact Nat.lt_of_le_of_lt (by omega:_<=1000) (by decide)
     ·intro c u e;rw[ai (av e hD)];exact sP _ _ (sH _ _ e)
     ·rw[iB Ri,<-cs];exact ae
    |false =>
     rw[show decide (((k,v):List Key×V).1.length<=i)=false from hz,if_neg Bool.false_ne_true] at cs;refine b8 ⟨FF.length-(j+1),by omega,rfl,FO,sH.trans sP,?_,_,_,rfl⟩;rw[cs];exact sP _ _ hd
   ·have ej:j=FF.length:=by omega
    subst ej;rw[List.take_length] at hd;exact .inl ⟨⟨by omega,sH _ _ hw⟩,q _ D sH hD hd⟩
  ·exact .inr ⟨no,e⟩
theorem BN {f:Addr}{fd:ET}(F:uB K "_law_products" "_law_products" BM f fd)(m_len:mg "len"=none)(m_range:mg "range"=none):Bu P w K mg base (aS P w) 1 f fd uU BW:=by
 refine F.okN sG (λvs H Q E h=>?_) (λFJ A outer s H vs Q E hr h=>?_)
 ·obtain⟨m,n,rfl,_⟩:=h;rfl
 ·obtain⟨m,n,rfl,hm,hn,q⟩:=h
  refine⟨_,(aj (@aK _ _ 2 _ _ _ _ sG.nd rfl (Or.inl rfl) (@cD _ _ _ _ (@aq _ _ _ _ _ (@bx _ _ _ _ _ ah) ah rfl)) rfl (Or.inl rfl))
   (aj (c9 PassesOwn.never rfl (eM (by rfl) m_range (@aq _ _ _ _ _ (pv 0) ah rfl)) (aE (i:=3) sG.nd rfl (Or.inr rfl))
   (ar (@aK _ _ 2 _ _ _ _ sG.nd rfl (Or.inl rfl) (@aD _ _ _ _ _ _ _ _ yM (pv 2) (dN (N:=["_law_product_here","_law_most","_law_place"]) (nl:=1) (js:=[1,3]) (osc:=ao BM) ⟨rfl,rfl,by decide +kernel,by decide +kernel,by decide +kernel,rfl,(.cons ⟨rfl,by decide +kernel⟩ (.cons ⟨rfl,by decide +kernel⟩ .nil)),by decide +kernel⟩ rfl
    (bY (pv 2))
    (λCq fq sq Hq=>aE (i:=0) (by show(["_law_product_here","_law_most","_law_place"]:wk).Nodup;decide +kernel) rfl (Or.inl rfl) (Or.inr rfl))
    (λCq fq sq Hq=>(fj (@aN _ _ _ _ _ _ _ _ kQ (aF (iY (K:=K) rfl) (by rfl) m_len PySem.boot_len (@aq _ _ _ _ _ (pv 0) ah rfl)) (pv 1) (aM _))))
    (λCq fq sq Hq=>(@aD _ _ _ _ _ _ _ _ zW (pv 0) (@bx _ _ _ _ _ (@aq _ _ _ _ _ (pv 2) ah rfl)))))) rfl (Or.inl rfl))))
   (ar (aB (pv 2))))),?_⟩
  refine⟨Nat.zero_le _,λt0 LP=>⟨A5,λD0 Rj=>?_⟩⟩;have s0:ay H (upd (upd H t0 (.tup [])) D0 (.lst [.ref t0])):=(au LP).trans (au Rj);refine⟨_,rfl,_,rfl,by omega,by omega,?_⟩;refine⟨λi m' σ' H'=>m'=m-i/\i<=m/\ay H H'/\(∃D ys,H D=none/\H' D=some (.lst ys)/\gG H' ys (hJ n i)/\∃o,σ'=[some (.int m),some (.int n),some (.ref D),o]),⟨m,by simp,Nat.zero_le _,s0,D0,[.ref t0],none_of (au LP) Rj,ae,.cons ⟨t0,rfl,au Rj _ _ ae⟩ .nil,none,rfl⟩,?_⟩;rintro i m' σ' H' ⟨rfl,hi,sH,D,ys,Rk,hD,hy,o,rfl⟩;obtain⟨k1,k2,k3,k4⟩:=qL n i
  have yl:ys.length<=256:=by
   rw[hy.length];exact Nat.le_trans k4 (Nat.pow_le_pow_right (by decide) (show i<=8 by omega))
  by_cases FO:i<m
  ·refine .inr ⟨(by show i<(m:Int).toNat;omega),λσ' H'=>ay H H'/\(∃D ys,H D=none/\H' D=some (.lst ys)/\gG H' ys (hJ n (i+1))/\∃o,σ'=[some (.int m),some (.int n),some (.ref D),o]),?_,λy H2 MU=>?_⟩
   ·rintro σ' H' ⟨g1,g2⟩;exact⟨m-(i+1),by omega,rfl,FO,g1,g2⟩
   ·obtain⟨rfl,rfl⟩:=MU;refine⟨_,rfl,_,rfl,D,rfl,⟨ys,aY.of hD⟩,?_⟩;refine wZ (a:=D) (xs:=ys) (rest:=[some (.int n),some (.int (0+(i:Int)))]) (λj zs H'=>ay H2 H'/\gG H' zs ((((hJ n i).take j).filter λk=>decide (k.length<n)).map λk=>k++[(i:Int)])) ⟨ay.refl _,.nil⟩ (λj zs H' hj GB=>?_) (λj x zs H' N hj ex GB hN=>?_) (λzs H' GB=>?_)
    ·obtain⟨g1,g2⟩:=GB;refine⟨?_,aY.of (g1 _ _ hD)⟩;rw[g2.length,List.length_map];have:=List.length_filter_le (λk:List Int=>decide (k.length<n)) ((hJ n i).take j);rw[List.length_take] at this;have:=hy.length;exact Nat.lt_of_le_of_lt (by omega:_<=256) (by decide)
    ·obtain⟨g1,g2⟩:=GB;obtain⟨k,ek,a,rfl,ha⟩:=aL (gG.keep hy (az.of g1)) ex
     have Gk:(hJ n i).take (j+1)=(hJ n i).take j++[k]:=by rw[List.take_add_one,ek];rfl
     refine⟨_,rfl,a,_,rfl,.inr (bf.of ha),_,rfl,_,_,rfl,rfl,_,rfl,?_⟩;rw[List.length_map];have kl:=(k1 k (List.mem_of_getElem? ek)).2
     by_cases hz:k.length<n
     ·rw[decide_eq_true (by omega:(k.length:Int)<(n:Int))];refine cb ⟨_,rfl,_,rfl,A5,λt1 IG=>?_⟩;have s1:=au (o:=.tup [V.int (0+(i:Int))]) IG;refine⟨a,t1,_,_,rfl,rfl,s1 _ _ ha,ae,?_,λp H5 s5 Rl=>hN _ _ ⟨(g1.trans s1).trans s5,?_⟩⟩
      ·rw[List.length_map];exact Nat.le_trans (by show k.length+1<=10;omega) (by decide)
      ·rw[Gk,List.filter_append,List.map_append]
       have ef:([k].filter λk=>decide (k.length<n))=[k]:=by simp[hz]
       rw[ef];refine Paired.snoc (gG.keep g2 (az.of (s1.trans s5))) ⟨p,rfl,?_⟩;rw[Rl,List.map_append,Int.zero_add];rfl
     ·rw[decide_eq_false (by omega:¬(k.length:Int)<(n:Int))];refine b8 (hN _ _ ⟨g1,?_⟩);rw[Gk,List.filter_append]
      have ef:([k].filter λk=>decide (k.length<n))=[]:=by simp[hz]
      rw[ef,List.append_nil];exact g2
    ·obtain⟨g1,g2⟩:=GB;intro D2 HU;have s2:=au (o:=.lst zs) HU;have U4:=hy.length;rw[U4,List.take_length] at g2
     have zl:zs.length<=ys.length:=by
      rw[g2.length,List.length_map,U4];exact List.length_filter_le _ _
     refine⟨D,D2,ys,zs,rfl,rfl,s2 _ _ (g1 _ _ hD),ae,Nat.le_trans (by omega:_<=512) (by decide),λp H5 Pb s5 Rl=>?_⟩;have sA:ay H2 H5:=(g1.trans s2).trans s5;refine⟨sH.trans sA,p,_,none_of ((sH.trans g1).trans s2) Pb,Rl,?_,_,rfl⟩;exact tS (gG.keep hy (az.of sA)) (gG.keep g2 (az.of (s2.trans s5)))
  ·have ei:i=m:=by omega
   subst ei;refine .inl ⟨(by show(i:Int).toNat<=i;omega),_,rfl,q _ D ys sH Rk hD hy⟩
end K24
namespace L2
open PySem PySem.Spec PyProof.Rows PySem.W
noncomputable def rJ (r:Addr)(H H':Hp):Prop:=∀b o,H b=some o->b≠r->H' b=some o
variable {H:Hp}
section
variable {cs:List (Addr×Obj)}{H1 H2:Hp}
theorem yQ (hc:∀c o,cs.lookup c=some o->H1 c=none):eW cs (dm cs H1)=H1:=by
 funext b
 cases q:cs.lookup b with
 |some o=>rw[dS q,hc b o q]
 |none=>rw[bA q,bc q]
theorem oh (hc:∀c o,cs.lookup c=some o->H1 c=none){b:Addr}{v:HO}(e:H1 b=some v):cs.lookup b=none:=by
 cases q:cs.lookup b with
 |none=>rfl
 |some o=>rw[hc b o q] at e;cases e
theorem xo (hc:∀c o,cs.lookup c=some o->H1 c=none)(S:ay (dm cs H1) H2):ay H1 (eW cs H2):=λb v e=>by
 rw[bA (oh hc e)];exact S b v (by rw[bc (oh hc e)];exact e)
theorem yB (S:ay H1 H2):ay (dm cs H1) (dm cs H2):=λb v e=>by
 cases q:cs.lookup b with
 |some o =>
  rw[jw q] at e |-;exact e
 |none =>
  rw[bc q] at e |-;exact S b v e
theorem wW :e9 cs (dm cs H):=λb v e=>jw e
end
theorem jj {pos:Pos}{a b:Int}{c:Value}(l:qw)(h:TriplesOk l)(hn:¬(a=pos.line/\b=pos.col)):codeAmong pos (l++[rawInt a,rawInt b,c])=codeAmong pos l:=by
 fun_induction TriplesOk l with
 |case1 =>
  show(if(a==(pos.line:Int)&&b==(pos.col:Int))=true then some c else codeAmong pos [])=codeAmong pos [];rw[if_neg (by simpa using hn)]
 |case2 a' t b' u x rest ih =>
  simp only[List.cons_append,codeAmong];rw[ih h]
 |case3=>exact h.elim
noncomputable def j7 (ls:List Pos)(q:Str)(Pt:Addr)(H:Hp):Prop:=∃ps,H Pt=some (.tbl ps)/\TriplesOk ps.toList/\∀pos∈ls,codeAmong pos ps.toList=none\/∃c' oc,codeAmong pos ps.toList=some (.ref c')/\H c'=some (cY c' oc)/\d9 q oc
variable {ls:List Pos}{Pt:Addr}
theorem j7.same {q:Str}{H':Hp}(h:j7 ls q Pt H)(S:ay H H'):j7 ls q Pt H':=by
 obtain⟨ps,h1,h2,h3⟩:=h;refine⟨ps,S _ _ h1,h2,λpos hp=>?_⟩
 rcases h3 pos hp with z|⟨c',oc,a,b,c⟩
 ·exact .inl z
 ·exact .inr ⟨c',oc,a,S _ _ b,c⟩
theorem j7.but {q:Str}{r:Addr}{H':Hp}{l:List V}(h:j7 ls q Pt H)(hr:H r=some (.lst l))(S:rJ r H H'):j7 ls q Pt H':=by
 have n1:∀b ps,H b=some (.tbl ps)->b≠r:=λb ps e z=>by rw[z,hr] at e;cases e
 have n2:∀b oc,H b=some (cY b oc)->b≠r:=λb oc e z=>by rw[z,hr] at e;cases e
 obtain⟨ps,h1,h2,h3⟩:=h;refine⟨ps,S _ _ h1 (n1 _ _ h1),h2,λpos hp=>?_⟩
 rcases h3 pos hp with z|⟨c',oc,a,b,c⟩
 ·exact .inl z
 ·exact .inr ⟨c',oc,a,S _ _ b (n2 _ _ b),c⟩
variable {Q:VK}
theorem A1 {X:Cx}{JD:Arguments}{body:Expr}{sc:Scope}{pos:Pos}{lq:Str}{σ:St}(Jr:pos∈ls)(hd:∀p∈ls,∀p'∈ls,((p.line:Int)=p'.line/\(p.col:Int)=p'.col)->p=p')(hq:X.env.qual++"<lambda>"=lq)(tb:j7 ls lq Pt H)
 (q:∀(H7:Hp)(f c':Addr)(oc:Obj)(ctv:Value),H7 f=some (cY f (fT X JD body sc c' ctv))->H7 c'=some (cY c' oc)->d9 lq oc->rJ Pt H H7->j7 ls lq Pt H7->Q (.ref f) H7):Dy X JD body sc pos Pt σ H Q:=by
 obtain⟨ps,hP,hT,Jo⟩:=id tb;refine⟨ps,hP,hT,?_⟩
 rcases Jo pos Jr with hn|⟨c',oc,hm,F1,GX⟩
 ·refine .inl ⟨hn,λc' f oc ctv F1 hf FX GX=>?_⟩;rw[hq] at GX
  have kp:∀b u,H b=some u->b≠Pt->(upd (upd (upd H Pt (.tbl (ps++#[rawInt pos.line,rawInt pos.col,.ref c']))) c' (cY c' oc)) f (cY f (fT X JD body sc c' ctv))) b=some u:=λb u e n=>by
   rw[ai (av e hf),ai (av e F1),ai n];exact e
  refine q _ f c' oc ctv ae (by rw[ai FX,ae]) GX kp ⟨_,by rw[ai (av hP hf),ai (av hP F1),ae],by rw[Array.toList_append];exact TriplesOk_snoc _ _ _ _ hT,λpos' Kb=>?_⟩;rw[Array.toList_append]
  by_cases e:pos'=pos
  ·subst e;exact .inr ⟨c',oc,codeAmong_snoc _ hT hn,by rw[ai FX,ae],GX⟩
  ·have ne:¬((pos.line:Int)=pos'.line/\(pos.col:Int)=pos'.col):=λz=>e (hd _ Jr _ Kb z).symm;rw[show(#[rawInt pos.line,rawInt pos.col,Value.ref c']:Cm).toList=[rawInt pos.line,rawInt pos.col,Value.ref c'] from rfl,jj _ hT ne]
   rcases Jo pos' Kb with z|⟨c2,X1,a,b,c⟩
   ·exact .inl z
   ·exact .inr ⟨c2,X1,a,kp _ _ b (λz=>by rw[z,hP] at b;cases b),c⟩
 ·refine .inr ⟨c',oc,hm,F1,by rw[hq];exact GX,λf ctv hf=>?_⟩
  have S:ay H (upd H f (cY f (fT X JD body sc c' ctv))):=λb u e=>by rw[ai (av e hf)];exact e
  exact q _ f c' oc ctv ae (S _ _ F1) GX (λb u e _=>S b u e) (tb.same S)
section
variable {P:vQ}{w:World}{K:Frag}{mg:FA}{base:Heap}{qual name y1 y2:Str}{scope:Scope}{f c' c1 c2:Addr}{params:Arguments}{body:Expr}{pm ctv:Value}{k:Nat}{v1 v2:V}{o1 o2 oc:Obj}
noncomputable def pP (φ:Hp->VK->XK->Prop):Prop:=∀(H:Hp)(Q Q':VK)(E E':XK),(∀v H',Q v H'->Q' v H')->(∀cls d H',E cls d H'->E' cls d H')->φ H Q E->φ H Q' E'
theorem xn {fo:Obj}{cs:List (Addr×Obj)}{φ0:Hp->VK->XK->Prop}(m:pP φ0):pP (Jx f c' fo oc cs φ0):=by
 intro H Q Q' E E' hQ hE h;obtain⟨g1,g2,g3,g4⟩:=h;exact⟨g1,g2,g3,m _ _ _ _ _ (λv H' q=>hQ _ _ q) (λc d H' q=>hE _ _ _ q) g4⟩
end
theorem rN {α β:Type} [BEq α] [LawfulBEq α]{a:α}{b:β}:∀{l:List (α×β)},(l.map (·.1)).Nodup->(a,b)∈l->l.lookup a=some b
 |[],_,m=>nomatch m
 |(x,y):: l,nd,m=>by
  rw[List.map_cons] at nd;obtain⟨n1,n2⟩:=List.nodup_cons.mp nd;rw[List.lookup_cons]
  rcases List.mem_cons.mp m with z|z
  ·injection z with z1 z2
   subst z1;subst z2;simp
  ·have ne:(a==x)=false:=beq_eq_false_iff_ne.mpr λe=>n1 (List.mem_map.mpr ⟨(a,b),z,e⟩);rw[ne];exact rN n2 z
theorem nR {α β:Type}{as:List α}{bs:List β}{a:α}{b:β}:(a,b)∈as.zip bs ↔ ∃i:Nat,as[i]?=some a/\bs[i]?=some b:=by
 rw[List.mem_iff_getElem?];constructor
 ·rintro⟨i,e⟩;exact⟨i,List.getElem?_zip_eq_some.mp e⟩
 ·rintro⟨i,e⟩;exact⟨i,List.getElem?_zip_eq_some.mpr e⟩
theorem A6 {α β:Type} [BEq α] [LawfulBEq α]{as:List α}{bs:List β}{a:α}{b:β}{i:Nat}(nd:as.Nodup)(l:as.length=bs.length)(ha:as[i]?=some a)(hb:bs[i]?=some b):(as.zip bs).lookup a=some b :=
 rN (by rw[List.map_fst_zip (by omega)];exact nd) (nR.mpr ⟨i,ha,hb⟩)
theorem n6 {α:Type}{l:List α}{i n:Nat}(h:i<n)(e:l.length=n):∃a,l[i]?=some a:=⟨l[i]'(by omega),by simp[e,h]⟩
theorem iI {α:Type}{l:List α}{i:Nat}{a:α}(h:l[i]?=some a):i<l.length:=(List.getElem?_eq_some_iff.mp h).1
section
variable {P:vQ}{w:World}{K:Frag}{mg:FA}{base:Heap}{qual name:Str}{scope:Scope}{f c':Addr}{params:Arguments}{body:Expr}{pm ctv:Value}{k:Nat}{oc:Obj}{ys:wk}{cs:List Addr}{os:List Obj}{vs:List V}
theorem rm {φ0:Hp->VK->XK->Prop}(Gz:bindArgs (kla_fn name qual params body scope (ys.zip cs).reverse pm (.ref c') ctv) ⟨[],[]⟩=pure [])(hk:scope.kind=.function)(KP:scope.isCoroutine=false)(Iy:scope.isGenerator=false)(F8:∀x∈scope.names,x.2≠.cell)
 (Gg:∀q∈scope.names,q.2=.free->q.1∈ys)(X2:∀y∈ys,scope.names.lookup y=some .free)(ny:ys.Nodup)(nc:cs.Nodup)(lc:ys.length=cs.length)(ro:Paired rq vs os)(lv:vs.length=ys.length)(GX:d9 qual oc)
 (F2:∀(A:Around)(outer:List Env)(s:Fp)(H:Hp)(Q:VK)(E:XK),om k (A.deeper (envX qual scope s.heap.objs.size f (.ref c') (ys.zip cs).reverse))->φ0 H Q E->∃t,PE (CL P w K mg base ys qual scope f (.ref c') (ys.zip cs).reverse A outer s H E) body t/\t (vs.map some) H Q):
 sQ P w K mg base (k+1) f (Jx f c' (kla_obj name qual params body scope (ys.zip cs).reverse pm c' ctv) oc (cs.zip os) φ0):=by
 have lo:vs.length=os.length:=Paired.length ro;have at_:∀{y:Str}{d:Addr},(ys.zip cs).reverse.lookup y=some d->∃i,ys[i]?=some y/\cs[i]?=some d:=λ{y d} e=>nR.mp (List.mem_reverse.mp (PySem.mem_of_lookup e))
 have lk:∀{i:Nat}{y:Str}{d:Addr},ys[i]?=some y->cs[i]?=some d->(ys.zip cs).reverse.lookup y=some d:=λ{i y d} h1 h2 =>
  rN (by rw[List.map_reverse,List.map_fst_zip (by omega)];exact(List.reverse_perm ys).nodup_iff.mpr ny) (List.mem_reverse.mpr (nR.mpr ⟨i,h1,h2⟩))
 have U5:∀{i:Nat}{d:Addr},cs[i]?=some d->∃(o:Obj)(v:V)(u:Value),os[i]?=some o/\vs[i]?=some v/\(cs.zip os).lookup d=some o/\o.data=.cell (some u)/\aC v u:=λ{i d} h=>by
  have hi:=iI h;obtain⟨o,ho⟩:=n6 (l:=os) (i:=i) hi (by omega);obtain⟨v,hv⟩:=n6 (l:=vs) (i:=i) hi (by omega)
  have r:rq v o:=by
   have:∀{a:List V}{b:List Obj}{i:Nat},Paired rq a b->a[i]?=some v->b[i]?=some o->rq v o:=by
    intro a b i p
    induction p generalizing i with
    |nil=>intro h;simp at h
    |cons r _ ih =>
     intro h1 h2
     cases i with
     |zero =>
      simp at h1 h2;subst h1;subst h2;exact r
     |succ i=>exact ih (by simpa using h1) (by simpa using h2)
   exact this ro hv ho
  obtain⟨u,ru,hu⟩:=r;exact⟨o,v,u,ho,hv,A6 nc (by omega) h ho,hu,ru⟩
 refine vC (N:=ys) (vs:=vs) (k:=k) Gz hk KP Iy F8 (λy hy=>?_) (λy z d e1 e2=>?_) GX (λy d e=>?_) (λi y v e1 e2=>?_) lv F2
 ·obtain⟨i,hi⟩:=List.mem_iff_getElem?.mp (Gg _ (PySem.mem_of_lookup hy) rfl);obtain⟨c,hc⟩:=n6 (l:=cs) (iI hi) lc.symm;exact⟨c,lk hi hc⟩
 ·obtain⟨i,a1,a2⟩:=at_ e1;obtain⟨j,b1,b2⟩:=at_ e2
  have ij:i=j:=by
   obtain⟨h1,h2⟩:=List.getElem?_eq_some_iff.mp a2;obtain⟨h3,h4⟩:=List.getElem?_eq_some_iff.mp b2;exact(List.getElem_inj nc).mp (h2.trans h4.symm)
  subst ij;exact Option.some.inj (a1.symm.trans b1)
 ·obtain⟨i,a1,a2⟩:=at_ e;obtain⟨o,v,u,_,_,h3,h4,_⟩:=U5 a2;exact⟨o,_,h3,h4⟩
 ·obtain⟨c,hc⟩:=n6 (l:=cs) (iI e1) lc.symm;obtain⟨o,v',u,h1,h2,h3,h4,h5⟩:=U5 hc;have ev:v'=v:=Option.some.inj (h2.symm.trans e2);subst ev;exact⟨X2 y (List.mem_of_getElem? e1),c,o,u,lk e1 hc,h3,h4,h5⟩
theorem z9 {fo:Obj}{φ0:Hp->VK->XK->Prop}{H7:Hp}{E:XK}(hf:H7 f=some (cY f fo))(F1:H7 c'=some (cY c' oc))(z:∀c∈cs,H7 c=none)
 (h:φ0 H7 (λv H'=>Q v (dm (cs.zip os) H')) λcls d H'=>E cls d (dm (cs.zip os) H')):Jx f c' fo oc (cs.zip os) φ0 (dm (cs.zip os) H7) Q E:=by
 have hc:∀c o,(cs.zip os).lookup c=some o->H7 c=none:=λc o e=>z c (List.of_mem_zip (dF e)).1;refine⟨by rw[bc (oh hc hf)];exact hf,by rw[bc (oh hc F1)];exact F1,wW,?_⟩;rw[yQ hc];exact h
theorem Eb {H7 H8:Hp}(z:∀c∈cs,H7 c=none)(S:ay (dm (cs.zip os) H7) H8):e9 (cs.zip os) H8/\ay H7 (eW (cs.zip os) H8):=by
 have hc:∀c o,(cs.zip os).lookup c=some o->H7 c=none:=λc o e=>z c (List.of_mem_zip (dF e)).1;exact⟨λb v e=>S b _ (jw e),xo hc S⟩
end
noncomputable def ow (CX:AP)(X:Cx)(E:St->XK):Prop:=∀(pins:List (Addr×Obj))(σ:St)(H:Hp)(s:Fp)(e:Value)(s':Fp),Inv X pins σ H s->CX X.stack H s (E σ) e s'->X.xe e s'
section
variable {X:Cx}{CX:AP}{k:Nat}{f C:Addr}{fd:ET}{ps:wk}{sp:Sp}{E:St->XK}{x:Str}{p pos:Pos}{e:Expr}{es:Bo}{t:TA}{ds:qw}{Gd:List V}
theorem oW {pins:List (Addr×Obj)}:ow (aS X.prog X.w) (X.tr pins E) E:=kH
noncomputable def BD (K:Frag):List V->Hp->VK->Prop:=λxs H Q=>∃a C dx fr c cv b,xs=[.ref a,c]/\BS c cv/\H a=some (eU a (.ref C) dx fr)/\p3 K C/\kitOne K (.ref C) cv=some b/\Q (.bl b) H
theorem mj {K:Frag}(hK:X.K=K):bZ X (.builtin "isinstance") (BD K):=by subst hK;exact nY
end
noncomputable def vS (sp:Sp)(Gd:List V)(E:St->XK)(t:TA):TE:=λσ H Q=>AY sp Gd (E σ) t σ H Q
section
variable {X:Cx}{CX:AP}{k:Nat}{f:Addr}{fd:ET}{ps:wk}{sp:Sp}{E:St->XK}{x:Str}{p pos:Pos}{e:Expr}{es:Bo}{t:TA}{ds:qw}{Gd:List V}
theorem zi {pins:List (Addr×Obj)}{σ:St}{s:Fp}{us:qw}{vs:List V}(F:Bu X.prog X.w X.K X.mg X.base CX k f fd ps sp)(hr:om k X.A)(hb:aA X.K fd ps ds)(hd:aG Gd ds)(hx:ow CX X E)
 (I:Inv X pins σ H s)(r:aG vs us)(h:sp (vs++Gd) H Q (E σ)):wpAny (model X.prog X.w) X.A (call (.ref f) us) (EP X pins σ Q) X.xe s:=by
 have r2:aG (vs++Gd) (us++ds):=r.append hd
 have hl:(us++ds).length=ps.length:=by rw[<-r2.length];exact F.len _ _ _ _ h
 refine wpAny_call (codeAny_mono (F.run X.A X.stack s H ⟨us,[]⟩ (us++ds) (vs++Gd) Q (E σ) hr I.abJ (hb s us I.kIn hl) r2 h) λr s' hq=>?_)
 cases r with
 |error e=>exact hx pins σ H s e s' I hq
 |ok fl =>
  cases fl with
  |ret u=>exact I.after hq
  |next=>exact False.elim hq
  |brk=>exact False.elim hq
  |cont=>exact False.elim hq
theorem yx (F:Bu X.prog X.w X.K X.mg X.base CX k f fd ps sp)(hr:om k X.A)(hg:Gl X x)(hm:X.mg x=some (.ref f))(hk:PySem.W.keepIn X.K (.ref f)=true)(hb:aA X.K fd ps ds)(hd:aG Gd ds)(hx:ow CX X E)
 (ha:PA X (e::es) t)(GY:(x==("__debug__":Str))=false:=by decide)(he:starEach (e::es) X.env=(false,eval e X.env):: starEach es X.env:=by rfl)(Gw:(backTo pos (starEach es X.env)).any (·.1)=false:=by rfl):
 PE X (.Call (.Name x p) (e::es) [] pos) (vS sp Gd E t):=by
 intro pins s σ H Q I h;refine wpAny_Call_Name_kw (dz I hg hm ?_ GY);refine PySem.W.callWith_K (h₀:=X.base) I.ok.mod.kin hk (bp (ha pos pins s σ H _ I h) λus s1 ⟨vs,H1,I1,r,q⟩=>⟨I1.kIn,?_⟩) he Gw;exact zi F hr hb hd hx I1 r q
end
end L2
namespace K24
open PySem L2 PySem.W
noncomputable abbrev tX:Stmt:=aV 61
structure Refs (K:Frag)(mg:FA)(FE ND NF TM:Addr):Prop where
 mFE:mg "FalseError"=some (.ref FE)
 mND:mg "NoDegree"=some (.ref ND)
 mNF:mg "NoFilling"=some (.ref NF)
 mTM:mg "TooMany"=some (.ref TM)
 mVE:mg "ValueError"=none
 kND:p3 K ND
 xND:exmOne K (.ref ND) (.ref FE)=some true
 b1:kitOne K (.ref ND) (.ref ND)=some true
 b2:kitOne K (.ref ND) (.ref NF)=some false
 b3:kitOne K (.ref ND) (.ref TM)=some false
 b4:kitOne K (.ref ND) (.type "ValueError")=some true
noncomputable def rG (P:vQ)(w:World)(K:Frag)(mg:FA)(base:Heap)(kk:Nat)(ND:Addr):Sp:=λvs H Q _=>∃(f:Addr)(φ:Hp->VK->XK->Prop),vs=[.ref f]/\sQ P w K mg base kk f φ/\pP φ /\
 φ H (λ_ H'=>Q (.str "told") H') λcls d H'=>d=none/\cls=.ref ND/\∀HB,ay H' HB->Q (.str "degree") HB
variable {P:vQ}{w:World}{K:PySem.W.Frag}{mg:FA}{base:Heap}
theorem kI:uZ ["_law_call","_law_kept","e","_law_kinds"] ["_law_call"] (ao tX):=d8 (by decide +kernel)
theorem Aa {f FE ND NF TM:Addr}{fd:ET}{kk:Nat}(F:uB K "_law_kind" "_law_kind" tX f fd)(R:Refs K mg FE ND NF TM)(FH:mg "isinstance"=none):Bu P w K mg base (aS P w) (kk+1) f fd ["_law_call"] (rG P w K mg base kk ND):=by
 refine F.okN kI (λvs H Q E h=>?_) (λFJ A outer s H vs Q E hr h=>?_)
 ·obtain⟨f,φ,rfl,_⟩:=h;rfl
 ·obtain⟨g,φ,rfl,C,mono,q⟩:=h
  refine⟨_,aj (aK (i:=1) kI.nd rfl (Or.inl rfl) n9)
   (aj (vR (i:=2) rfl rfl kI.nd rfl rfl (by rfl) R.mFE (λpins E'=>ar (jy (show PE (Cx.tr (dw (aS P w) P w K mg base ["_law_call","_law_kept","e","_law_kinds"] "_law_kind" (ao tX) f FJ A outer s H E).nox pins E') _ (vX P w K mg base kk 0 E') from xu (X:=(Cx.tr (dw (aS P w) P w K mg base ["_law_call","_law_kept","e","_law_kinds"] "_law_kind" (ao tX) f FJ A outer s H E).nox pins E')) (E:=E') (i:=0) hr kH (pv 0)))) (λa=>ar (aK (i:=1) kI.nd rfl (Or.inl rfl) (pv 2))))
   (aj (bg (oA (aaZ (pv 1))) (ar (aB c7)) aJ)
   (aj (aK (i:=3) kI.nd rfl (Or.inl rfl) (cD
    (aW (aF bq (by rfl) FH (by rfl) (aW (pv 1) (aW (cR (by rfl) R.mND (show aC (.ref ND) (.ref ND) from rfl)) ah)))
    (aW (aF bq (by rfl) FH (by rfl) (aW (pv 1) (aW (cR (by rfl) R.mNF (show aC (.ref NF) (.ref NF) from rfl)) ah)))
    (aW (aF bq (by rfl) FH (by rfl) (aW (pv 1) (aW (cR (by rfl) R.mTM (show aC (.ref TM) (.ref TM) from rfl)) ah))) ah)))))
   (aj (bg (PW.pt (iA (aN hV (yn PySem.F.plainAttrs_list PySem.F.slot_list_count PySem.F.type_list_count xF (pv 3) (aW fF ah)) ak (aM _))
    (fe (cp (cq (aF bq (by rfl) FH (by rfl) (aW (pv 1) (aW (du (by rfl) R.mVE (by rfl) (show aC (.ty "ValueError") (.type "ValueError") from rfl)) ah)))))))) (ar (aB c7)) aJ)
   (ar (aB (aX bM (cD (aW c7 (aW c7 (aW c7 ah)))) (yn PySem.F.plainAttrs_list PySem.F.slot_list_index PySem.F.type_list_index wR (pv 3) (aW fF ah)) (λ_ _=>rfl)))))))),?_⟩
  refine⟨g,φ,rfl,C,mono H _ _ _ _ (λv H' z=>?_) (λcls d H' z=>?_) q⟩
  ·-- cO
   exact⟨_,rfl,_,rfl,cb z⟩
  ·obtain⟨rfl,z⟩:=z;obtain⟨rfl,z⟩:=z;refine⟨R.xND,λa ha=>?_⟩;refine⟨_,rfl,?_⟩;refine⟨_,rfl,_,rfl,b8 ?_⟩;have ea:(upd H' a (qR a (.ref ND))) a=some (qR a (.ref ND)):=ae;have ty:∀{H2:Hp},ay (upd H' a (qR a (.ref ND))) H2->vB K H2 (.ref a) (.ref ND):=λS=>.exc (S _ _ ea) R.kND;refine⟨_,rfl,.ref a,.ref ND,_,_,_,rfl,rfl,ty (ay.refl _),R.b1,_,rfl,.ref a,.ref NF,_,_,_,rfl,rfl,ty (ay.refl _),R.b2,_,rfl,.ref a,.ref TM,_,_,_,rfl,rfl,ty (ay.refl _),R.b3,by decide,λp hp=>?_⟩;have U6:=au (o:=.lst [V.bl true,V.bl false,V.bl false]) hp;refine⟨_,rfl,.inl ⟨rfl,_,aY.of ae⟩,p,_,_,rfl,rfl,aY.of ae,by decide,rfl,rfl,_,rfl,b8 ?_⟩;refine⟨_,rfl,.ref a,.ty "ValueError",_,_,_,rfl,rfl,ty U6,R.b4,_,rfl,b8 ?_⟩;refine⟨by decide,λr Li=>?_⟩
   have Gb:p≠r:=λe=>by rw[<-e,ae] at Li;cases Li
   refine⟨_,rfl,.inl ⟨rfl,_,aY.of (by rw[ai Gb];exact ae)⟩,p,_,_,0,rfl,rfl,aY.of (by rw[ai Gb];exact ae),by decide,rfl,⟨_,rfl,rfl⟩,(λi z h e=>absurd h (Nat.not_lt_zero _)),by decide,?_⟩;refine⟨r,_,_,_,rfl,rfl,aY.of ae,rfl,z _ ?_⟩;exact((au ha).trans U6).trans (au Li)
noncomputable abbrev tT:Stmt:=aV 62
structure rC (P:vQ)(w:World)(K:Frag)(mg:FA)(base:Heap)(FE CN:Addr):Prop where
 ik:IK P w K mg base "NoWorth" CN Fv (gz CN "product")
 no:cu K CN "product"
 x:PySem.W.exmOne K (.ref CN) (.ref CN)=some true
 mFE:mg "FalseError"=some (.ref FE)
 mKE:mg "KeyError"=none
 a1:kitOne K (.ref CN) (.ref FE)=some false
 a2:kitOne K (.ref CN) (.type "KeyError")=some true
noncomputable abbrev Ei:List Str:=["_law_worths","_law_one","_law_found","e"]
noncomputable def xr (C CF:Addr):Sp:=λvs H Q _=>∃(wd s:Addr)(p:Int)(ts d:List Tm),vs=[.ref wd,.ref s]/\HW H wd d/\zU C CF H s p ts/\FP p/\ts.length<=5 /\
 ((∃l,AI d ts l/\Dt p l/\∀H' D a,ay H H'->H' D=some (.lst [.ref a])->H' a=some (bE (eG p l).1 (eG p l).2)->Q (.ref D) H') \/
  ∃(k:Nat)(t:Tm),ts[k]?=some t/\(∀(i:Nat)(u:Tm),i<k->ts[i]?=some u->∃n,(u.1,n)∈d)/\(∀e∈d,e.1≠t.1)/\∀H' pr,ay H H'->H' pr=some (.tup (t.1.map V.int))->Q (.ref pr) H')
theorem rf:uZ Ei C8 (ao tT):=d8 (by decide +kernel)
theorem zC {f fw C CF FE CN:Addr}{fd Hl:ET}(F:uB K "_law_lacking" "_law_lacking" tT f fd)(Kc:mg "isinstance"=none)(R:rC P w K mg base FE CN)
 (FW:Bu P w K mg base (aS P w) 5 fw Hl yd (Bh C CF CN))(bW:L2.aA K Hl yd [])(mW:mg "worth_of"=some (.ref fw))(kW:keepIn K (.ref fw)=true):Bu P w K mg base (aS P w) 7 f fd C8 (xr C CF):=by
 refine F.okN rf (λvs H Q E h=>?_) (λFJ A outer s H vs Q E hr h=>?_)
 ·obtain⟨wd,s,p,ts,d,rfl,_⟩:=h;rfl
 ·obtain⟨wd,s0,p,ts,d,rfl,hw,hs,hp,hl,h⟩:=h;have hr6:om 6 _:=hr.mono (by decide);have LQ:om 5 _:=hr.mono (by decide)
  refine⟨_,(aj (vR (i:=3) rfl rfl rf.nd rfl rfl (by rfl) R.ik.m (λpins E'=>ar (@aK _ _ 2 _ _ _ _ rf.nd rfl (Or.inl rfl) (show PE (Cx.tr (dw (aS P w) P w K mg base Ei "_law_lacking" (ao tT) f FJ A outer s H E).nox pins E') _ (vS (Bh C CF CN) [] E' (eC (fH 0) (eC (fH 1) E1))) from
   yx FW LQ (by rfl) mW kW bW .nil oW (@aq _ _ _ _ _ (pv 0) (@aq _ _ _ _ _ (pv 1) ah rfl) rfl)) rfl (Or.inl rfl)))
   (λa=>aj (bg (PW.pt (iA (cq (aF (show bZ _ _ (BD K) from mj rfl) (by rfl) Kc (by rfl) (@aq _ _ _ _ _ (pv 3) (@aq _ _ _ _ _ (cR (by rfl) R.mFE (show aC (.ref FE) (.ref FE) from rfl)) ah rfl) rfl)))
    (fe (cp (cq (aF (show bZ _ _ (BD K) from mj rfl) (by rfl) Kc (by rfl) (@aq _ _ _ _ _ (pv 3) (@aq _ _ _ _ _ (du (by rfl) R.mKE (by rfl) (show aC (.ty "KeyError") (.type "KeyError") from rfl)) ah rfl) rfl))))))) (ar (aB c7)) aJ)
    (ar (aB (show PE (Cx.hd (dw (aS P w) P w K mg base Ei "_law_lacking" (ao tT) f FJ A outer s H E).nox a) _ (AK K (fH 3) "product") from @Ag _ _ _ _ _ (pv 3) rfl)))))
   (ar (aB (@cD _ _ _ _ (@aq _ _ _ _ _ (pv 2) ah rfl))))),?_⟩
  refine⟨_,rfl,_,rfl,wd,s0,p,ts,d,rfl,hw,hs,hp,hl,?_⟩
  rcases h with⟨l,wl,ok,q⟩|⟨k,t,et,hf,GJ,q⟩
  ·refine .inl ⟨l,wl,ok,λH' a sH ha=>?_⟩;exact⟨_,rfl,A5,λD hD=>q _ D a (sH.trans (au hD)) ae (au hD _ _ ha)⟩
  ·refine .inr ⟨k,t,et,hf,GJ,λd' pr H' sH hd Gb=>⟨R.x,λa ha=>?_⟩⟩;have X3:d'≠a:=av hd ha;have ea:upd H' a (u3 a (.ref CN) (some d')) a=some (eU a (.ref CN) d' false):=ae
   have ed:upd H' a (u3 a (.ref CN) (some d')) d'=some (gA d' [("product",.ref pr)]):=by rw[ai X3];exact hd
   refine⟨_,rfl,a,CN,d',false,.ref FE,.ref FE,false,rfl,rfl,ea,R.ik.k,R.a1,_,rfl,b8 ?_⟩;refine⟨_,rfl,a,CN,d',false,.ty "KeyError",.type "KeyError",true,rfl,rfl,ea,R.ik.k,R.a2,_,rfl,b8 ?_⟩;refine⟨_,rfl,a,CN,d',false,_,_,rfl,ea,ed,R.ik.s,R.no,rfl,?_⟩;have s5:ay H (upd H' a (u3 a (.ref CN) (some d'))):=sH.trans (au ha);exact q _ pr s5 (au ha _ _ Gb)
end K24
namespace L2
open PySem PySem.Spec PyProof.Rows PySem.W
noncomputable def vh (H:Hp)(y:V)(k:List Int):Prop:=∃a,y=.ref a/\H a=some (.tup (k.map V.int))
theorem m9:∀a b:List Int,dI (a.map D.int) (b.map D.int)=decide (a=b)
 |[],[]=>rfl
 |[],b::bs=>rfl
 |a::as,[]=>rfl
 |a::as,b::bs=>by
  show((a==b)&&dI (as.map D.int) (bs.map D.int))=_;rw[m9 as bs]
  by_cases h1:a=b
  ·by_cases h2:as=bs
   ·subst h1;subst h2;simp
   ·simp[h1,h2]
  ·simp[h1]
theorem cw (K:Frag)(H:Hp):∀k:List Int,bh K H (k.map D.int) (k.map V.int)
 |[]=>by unfold bh;rfl
 |i::k=>by
  show bh K H (.int i::k.map D.int) (.int i::k.map V.int);unfold bh;exact⟨_,_,rfl,by unfold aH;rfl,cw K H k⟩
theorem mZ:∀k:List Int,gL (k.map D.int)=0
 |[]=>rfl
 |i::k=>by
  show max (jn (.int i)) (gL (k.map D.int))=0;rw[mZ k];rfl
theorem pQ:∀{a b:List Int},a.map V.int=b.map V.int->a=b
 |[],[],_=>rfl
 |[],_::_,h=>by simp at h
 |_::_,[],h=>by simp at h
 |a::as,b::bs,h=>by
  rw[List.map_cons,List.map_cons] at h
  injection h with h1 h2
  injection h1 with h1
  rw[h1,pQ h2]
noncomputable def zA (H:Hp)(k:List Int):Value->Bool
 | .ref a=>match H a with
   |some (.tup xs)=>decide (xs=k.map V.int)
   |_=>false
 |_=>false
variable {H:Hp}
theorem sx {k k':List Int}{a:Addr}(h:H a=some (.tup (k'.map V.int))):zA H k (.ref a)=decide (k'=k):=by
 show(match H a with|some (.tup xs)=>decide (xs=k.map V.int)|_=>false)=_;rw[h];show decide (k'.map V.int=k.map V.int)=_
 by_cases e:k'=k
 ·subst e;simp
 ·rw[decide_eq_false e,decide_eq_false λz=>e (pQ z)]
noncomputable def ED (K:Frag):R2:=λx y H Q=>∃p ys ks b k,x=.ref b/\y=.ref p/\aY K H p ys/\Paired (vh H) ys ks/\H b=some (.tup (k.map V.int))/\Q (.bl (decide (k∈ks))) H
theorem xM {k:List Int}:∀{ys:List V}{ks:List (List Int)}{its:qw},Paired (vh H) ys ks->aG ys its->its.any (zA H k)=decide (k∈ks)
 |_,_,_,.nil,.nil=>by simp
 |_,_,_,.cons (b:=k') ⟨a,e,h⟩ t,.cons r v=>by
  subst e;have e2:_=Value.ref a:=r;rw[e2,List.any_cons,sx h,xM t v]
  by_cases z:k'=k
  ·subst z;simp
  ·have z':¬k=k':=λq=>z q.symm;simp[z,z']
theorem yb {w:Value}:∀{ys:List V}{ks:List (List Int)}{its:qw},Paired (vh H) ys ks->aG ys its->w∈its->∃(k':List Int)(a:Addr),w=.ref a/\H a=some (.tup (k'.map V.int))
 |_,_,_,.nil,.nil,h=>by simp at h
 |_,_,_,.cons (b:=k') ⟨a,e,h⟩ t,.cons r v,m=>by
  subst e
  rcases List.mem_cons.mp m with z|z
  ·exact⟨k',a,z.trans r,h⟩
  ·exact yb t v z
theorem Bx {X:Cx}{n:Nat}(hr:om n X.A):fu X (compareOp .In) (ED X.K):=by
 intro pins s σ H x y v u Q I rx ry h;obtain⟨p,ys,ks,b,k,rfl,rfl,hq,hp,hb,q⟩:=h
 cases(show v=Value.ref b from rx)
 cases(show u=Value.ref p from ry)
 obtain⟨its,r,pl,hz⟩:=I.list hq;have hu:=hr.units;refine SeqAt.in_listAt (zA H k) pl.isList (λw hw=>?_) ⟨.bl _,H,I,rfl,?_⟩
 ·have hw:w∈its:=by simpa using hw
  have:=yb hp r hw;obtain⟨k',a,rfl,ha⟩:=this;rw[sx ha]
  have z:=(eA I 32 X.A.in1 (.tup (k'.map D.int)) (.tup (k.map D.int)) (.ref a) (.ref b) (.ref a) (.ref b) (by show gL (k'.map D.int)+1<=32;rw[mZ];decide) (by show X.A.units+1+32<_;omega)
   (by unfold aH;exact⟨a,_,rfl,bf.of ha,cw _ _ _⟩) (by unfold aH;exact⟨b,_,rfl,bf.of hb,cw _ _ _⟩) rfl rfl).2.1
  have e:gH (.tup (k'.map D.int)) (.tup (k.map D.int))=decide (k'=k):=m9 k' k;rw[e] at z;exact z
 ·have e:its.toArray.any (zA H k)=decide (k∈ks):=by
   rw[List.any_toArray];exact xM hp r
  rw[e];exact q
end L2
namespace K24
open PySem L2 PySem.W Nm Srt
variable {p:Int}
theorem mH :∀(n:Nat)(ts:List Tm),ts.length=n->(ts.map (·.1)).Nodup->aO p ts=ts
 |0,ts,hn,_=>by
  have:ts=[]:=List.length_eq_zero_iff.mp hn;subst this;rfl
 |n+1,ts,hn,nd=>by
  obtain⟨Ga,t,rfl⟩:∃Ga t,ts=Ga++[t]:=by
   have FX:ts≠[]:=by intro z;rw[z] at hn;cases hn
   exact⟨ts.dropLast,ts.getLast FX,(List.dropLast_concat_getLast FX).symm⟩
  have hl:Ga.length=n:=by simpa using hn
  rw[List.map_append] at nd;obtain⟨X4,_,dj⟩:=List.nodup_append.mp nd;rw[eJ,mH n Ga hl X4];unfold iW;rw[if_neg];intro h;obtain⟨e,he,e1⟩:=List.any_eq_true.mp h;have e1:e.1=t.1:=of_decide_eq_true e1;exact dj e.1 (List.mem_map.mpr ⟨e,he,rfl⟩) t.1 (by simp) e1
variable {d:List Tm}
theorem jQ {t:Tm}(h:t∈cO d):t∈d/\t.2.1≠0:=by
 have:=(iJ d).mem_iff.mp h;obtain⟨h1,h2⟩:=List.mem_filter.mp this;exact⟨h1,by simpa using h2⟩
theorem t9 (nd:(d.map (·.1)).Nodup):((cO d).map (·.1)).Nodup:=by
 refine((iJ d).map (·.1)).nodup_iff.mpr ?_;exact List.Nodup.sublist (List.Sublist.map _ List.filter_sublist) nd
variable {ts:List Tm}
theorem wB (nd:(ts.map (·.1)).Nodup):((ts.map λe=>(keyOf e,e)).map (·.1)).Nodup:=by
 rw[List.map_map];have e:((λx:Ky×Tm=>x.1) ∘ λe:Tm=>(keyOf e,e))=keyOf:=rfl;rw[e];unfold List.Nodup at nd |-;rw[List.pairwise_map] at nd |-;refine nd.imp λh z=>h ?_;unfold keyOf at z;injection z
theorem ym (d:List Tm):(cO d).length<=d.length:=by
 rw[(iJ d).length_eq];exact List.length_filter_le _ _
theorem uG (nd:(d.map (·.1)).Nodup):cO (aO p (cO d))=cO d:=by
 rw[mH _ (cO d) rfl (t9 nd)];have nf:((d.filter λe=>e.2.1 != 0).map (·.1)).Nodup:=List.Nodup.sublist (List.Sublist.map _ List.filter_sublist) nd;have up:=jG (wB nf)
 have e:(cO d).map (λe=>(keyOf e,e))=cA ((d.filter λe=>e.2.1 != 0).map λe=>(keyOf e,e)):=by
  unfold cO;rw[List.map_map]
  have:∀x∈cA ((d.filter λe=>e.2.1 != 0).map λe=>(keyOf e,e)),((λe:Tm=>(keyOf e,e)) ∘ λx:Ky×Tm=>x.2) x=x:=λx hx=>by
   have m:=(cy _).mem_iff.mp hx;obtain⟨t,_,rfl⟩:=List.mem_map.mp m;rfl
  rw[List.map_congr_left this,List.map_id']
 have ef:(cO d).filter (λe=>e.2.1 != 0)=cO d:=List.filter_eq_self.mpr λt ht=>by
  have:=(jQ ht).2;simpa using this
 have e2:cA ((cO d).map λe=>(keyOf e,e))=(cO d).map λe=>(keyOf e,e):=by
  rw[<-e] at up;exact(p9 (wB (t9 nd)) up (List.Perm.refl _)).symm
 show(cA (((cO d).filter λe=>e.2.1 != 0).map λe=>(keyOf e,e))).map (·.2)=cO d;rw[ef,e2,List.map_map];exact List.map_id _
theorem wN {t e:Tm}(h:e∈iW p d t):(∃e0∈d,e0.1=e.1)\/e.1=t.1:=by
 unfold iW at h
 split at h
 ·obtain⟨e0,h0,rfl⟩:=List.mem_map.mp h;refine .inl ⟨e0,h0,?_⟩
  split <;> rfl
 ·rcases List.mem_append.mp h with h|h
  ·exact .inl ⟨e,h,rfl⟩
  ·have:e=t:=by simpa using h
   exact .inr (by rw[this])
theorem ph :∀(n:Nat)(ts:List Tm),ts.length=n->∀e∈aO p ts,∃t∈ts,t.1=e.1
 |0,ts,hn,e,he=>by
  have:ts=[]:=List.length_eq_zero_iff.mp hn;subst this;exact absurd (show e∈([]:List Tm) from he) (by simp)
 |n+1,ts,hn,e,he=>by
  obtain⟨Ga,t,rfl⟩:∃Ga t,ts=Ga++[t]:=by
   have FX:ts≠[]:=by intro z;rw[z] at hn;cases hn
   exact⟨ts.dropLast,ts.getLast FX,(List.dropLast_concat_getLast FX).symm⟩
  have hl:Ga.length=n:=by simpa using hn
  rw[eJ] at he
  rcases wN he with⟨e0,h0,e1⟩|e1
  ·obtain⟨t0,m0,q⟩:=ph n Ga hl e0 h0;exact⟨t0,List.mem_append_left _ m0,q.trans e1⟩
  ·exact⟨t,by simp,e1.symm⟩
structure Due (p:Int)(ts:List Tm):Prop where
 len:ts.length<=5
 gn:∀t∈ts,Gn p 283 t.2
 pw:∀t∈ts,t.1.Pairwise (· < ·)
 pl:∀t∈ts,∀k∈t.1,0<=k/\k<6
 pn:∀t∈ts,t.1.length<=60
 self:cO (aO p ts)=ts
theorem By {many:Int}{raw:List Tm}(hp:FP p)(hm:many<=6)(hl:raw.length<=5)(h:∀t∈raw,DX p many t):Due p (cO (aO p raw)):=by
 obtain⟨g1,g2,g3⟩:=dA (m:=45) hp raw.length raw rfl λt ht=>(h t ht).1;have fr:∀t∈cO (aO p raw),∃t0∈raw,t0.1=t.1:=λt ht=>ph raw.length raw rfl t (jQ ht).1;refine⟨Nat.le_trans (ym _) (Nat.le_trans g3 hl),λt ht=>?_,λt ht=>?_,λt ht k hk=>?_,λt ht=>?_,uG g2⟩
 ·have g:=g1 t (jQ ht).1
  have le:(45+1)*raw.length+7<=283:=by omega
  exact⟨g.1,g.2.1.mono le,g.2.2.mono le⟩
 ·obtain⟨t0,h0,e⟩:=fr t ht;rw[<-e];exact(h t0 h0).2.1
 ·obtain⟨t0,h0,e⟩:=fr t ht;rw[<-e] at hk;have:=(h t0 h0).2.2.1 k hk;omega
 ·obtain⟨t0,h0,e⟩:=fr t ht;rw[<-e];exact(h t0 h0).2.2.2
theorem Due.prd (d:Due p ts):∀t∈ts,Gn p 283 t.2/\CJ t.1:=λt ht=>⟨d.gn t ht,Bd (d.pw t ht) (λk hk=>by have:=d.pl t ht k hk;omega) (by have:=d.pn t ht;omega)⟩
noncomputable def wv (d:List Tm)(k:List Int):Int×Int:=((d.find? λe=>decide (e.1=k)).map (·.2)).getD (0,1)
noncomputable def has (d:List Tm)(k:List Int):Bool:=d.any λe=>decide (e.1=k)
variable {k:List Int}
theorem oy (h:has d k=false):∀e∈d,e.1≠k:=λe he z=>by
 unfold has at h;rw[List.any_eq_false] at h;exact h e he (by simpa using z)
theorem pD (h:has d k=true):(k,wv d k)∈d:=by
 obtain⟨e,he,z⟩:=List.any_eq_true.mp h;unfold wv
 cases q:d.find? λe=>decide (e.1=k) with
 |none=>exact absurd z (by have:=List.find?_eq_none.mp q e he;simpa using this)
 |some e' =>
  have m:=List.mem_of_find?_eq_some q;have y:=List.find?_some q
  have y:e'.1=k:=by simpa using y
  show(k,e'.2)∈d;rw[<-y];exact m
theorem Ax (h:has d k=false):wv d k=(0,1):=by
 unfold wv
 have:(d.find? λe=>decide (e.1=k))=none:=List.find?_eq_none.mpr λe he=>by
  have:=oy h e he;simpa using this
 rw[this];rfl
noncomputable def pq (p:Int)(d:List Tm):Prop:=∀e∈d,Gn p 300 e.2
theorem zB (hp:FP p):Gn p 300 (0,1):=⟨fX hp,by show(0:Int).natAbs<2^300;exact Nat.two_pow_pos _,(by show(1:Int).natAbs<2^1;decide:B 1 1).mono (by decide)⟩
theorem AZ (hp:FP p)(hd:pq p d)(k:List Int):Gn p 300 (wv d k):=by
 cases q:has d k with
 |true=>exact hd _ (pD q)
 |false=>rw[Ax q];exact zB hp
theorem mx {n m:Nat}{a b:Int×Int}(hp:FP p)(ha:Gn p n a)(hb:Gn p m b)(h7:7<=n+m):Gn p (n+m) (gM p a b):=by
 have nz:a.2*b.2≠0:=Int.mul_ne_zero ha.ne hb.ne;exact⟨Num.set hp.nn nz,v9 hp (ha.2.1.mul hb.2.1) nz h7,xB (ha.2.2.mul hb.2.2) nz (by omega)⟩
noncomputable abbrev vN (d ts:List Tm):List ((Int×Int)×(Int×Int)):=ts.map λt=>(t.2,wv d t.1)
theorem Bb (hp:FP p)(hd:pq p d)(hl:ts.length<=5)(ht:∀t∈ts,Gn p 283 t.2):Dt p (vN d ts):=⟨by rw[List.length_map];exact hl,λx hx=>by
 obtain⟨t,m,rfl⟩:=List.mem_map.mp hx;have g:=ht t m
 exact⟨⟨g.1,g.2.1.mono (by decide),g.2.2.mono (by decide)⟩,AZ hp hd _⟩⟩
theorem qt (hp:FP p):∀(k:Nat)(l:List ((Int×Int)×(Int×Int))),l.length=k->(∀x∈l,Gn p 300 x.1/\Gn p 300 x.2)->Gn p (601*k+1) (eG p l)
 |0,l,h,_=>by
  have:l=[]:=List.length_eq_zero_iff.mp h;subst this;exact⟨fX hp,by show(0:Int).natAbs<2^1;decide,by show(1:Int).natAbs<2^1;decide⟩
 |k+1,l,h,hl=>by
  obtain⟨Ga,t,rfl⟩:∃Ga t,l=Ga++[t]:=by
   have FX:l≠[]:=by intro z;rw[z] at h;cases h
   exact⟨l.dropLast,l.getLast FX,(List.dropLast_concat_getLast FX).symm⟩
  have hk:Ga.length=k:=by simpa using h
  have g:=qt hp k Ga hk λx hx=>hl x (List.mem_append_left _ hx);have t2:=hl t (List.mem_append_right _ (by simp));rw[qv];have z:=m8 hp g (mx hp t2.1 t2.2 (by decide)) (by omega)
  have e:601*k+1+(300+300)+1<=601*(k+1)+1:=by omega
  exact⟨z.1,z.2.1.mono e,z.2.2.mono e⟩
theorem AC :∀{ts:List Tm},(∀t∈ts,has d t.1=true)->AI d ts (vN d ts)
 |[],_=>.nil
 |t::ts,h=>.cons ⟨rfl,pD (h t List.mem_cons_self)⟩ (AC λu hu=>h u (List.mem_cons_of_mem _ hu))
theorem oV :∀{ts:List Tm},ts.filter (λt=>!has d t.1)≠[]->∃(k:Nat)(t:Tm),ts[k]?=some t/\(∀(i:Nat)(u:Tm),i<k->ts[i]?=some u->∃n,(u.1,n)∈d)/\has d t.1=false
 |[],h=>absurd rfl h
 |t::ts,h=>by
  cases q:has d t.1 with
  |false=>exact⟨0,t,rfl,λi u hi=>absurd hi (Nat.not_lt_zero _),q⟩
  |true =>
   have h':ts.filter (λt=>!has d t.1)≠[]:=by
    rw[List.filter_cons,if_neg (by rw[q];decide)] at h;exact h
   obtain⟨k,u,e,a,b⟩:=oV h';refine⟨k+1,u,by simpa using e,λi v hi ev=>?_,b⟩
   cases i with
   |zero =>
    have:t=v:=by simpa using ev
    subst this;exact⟨_,pD q⟩
   |succ i=>exact a i v (by omega) (by simpa using ev)
theorem zO (h:ts.filter (λt=>!has d t.1)=[]):∀t∈ts,has d t.1=true:=λt ht=>by
 have:=List.filter_eq_nil_iff.mp h t ht;simpa using this
noncomputable abbrev EO:Stmt:=(aV 63)
theorem rA:uZ ["_law_field","_law_prime_here","_law_worths","_law_rows","_law_due","_law_lack","_law_product_here","_law_number_here","_law_found"] vK (ao EO):=d8 (by decide +kernel)
variable {H:Hp}{wd:Addr}
theorem HW.isD (h:HW H wd d):D8 H wd:=let⟨⟨o,FF,e,_⟩,_⟩:=h;.inr ⟨FF,.inr ⟨o,e⟩⟩
theorem HW.look {pr:Addr}(h:HW H wd d)(Gb:H pr=some (.tup (k.map V.int))):∃o,fM H wd (.ref pr) o/\o.isSome=has d k/\∀z,H z=some (bE 0 1)->∃a,o.getD (.ref z)=.ref a/\H a=some (bE (wv d k).1 (wv d k).2):=by
 obtain⟨o,dg,no,yes⟩:=h.get Gb;refine⟨o,dg,?_,λz hz=>?_⟩
 ·cases q:has d k with
  |true=>obtain⟨a,rfl,_⟩:=yes _ (pD q);rfl
  |false=>rw[no (oy q)];rfl
 ·cases q:has d k with
  |true =>
   obtain⟨a,rfl,ha⟩:=yes _ (pD q);exact⟨a,rfl,ha⟩
  |false =>
   rw[no (oy q),Ax q];exact⟨z,rfl,hz⟩
theorem u6 {H':Hp}{s dx:Addr}{o u:HO}(h1:H s=none)(h2:H dx=none)(ne:dx≠s)(k:SameBut s (upd (upd H dx o) s u) H'):ay H H':=λb v e=>by
 have b1:b≠s:=av e h1;have b2:b≠dx:=av e h2;exact k b v (by rw[ai b1,ai b2];exact e) b1
variable {K:Frag}
theorem p6 {a:Addr}{n:Int×Int}(h:H a=some (bE n.1 n.2)):aH K H (.tup [.int n.1,.int n.2]) (.ref a):=by
 unfold aH;refine⟨a,_,rfl,bf.of h,?_⟩;exact cw K H [n.1,n.2]
theorem oO {l a:Addr}{n:Int×Int}(hl:H l=some (.lst [.ref a]))(h:H a=some (bE n.1 n.2)):aH K H (.lst [.tup [.int n.1,.int n.2]]) (.ref l):=by
 unfold aH;refine⟨l,_,rfl,aY.of hl,?_⟩;unfold bh;exact⟨_,_,rfl,p6 h,by unfold bh;rfl⟩
theorem zo (a b:Int):jn (.lst [.tup [.int a,.int b]])=2:=by simp[jn,gL]
noncomputable def Di (C CF:Addr):Sp:=λvs H Q _=>∃(fl F3 wd l:Addr)(p:Int)(ys:List V)(ts d:List Tm),vs=[.ref fl,.int p,.ref wd,.ref l]/\H fl=some (.ins CF F3 (gZ p))/\FP p/\HW H wd d/\pq p d/\H l=some (.lst ys)/\bR H ys ts/\Due p ts/\∀H',ay H H'->Q (.bl true) H'
variable {P:vQ}{w:World}{K:PySem.W.Frag}{mg:FA}{base:Heap}
theorem De {f fp ft fa fs C CF:Addr}{fd HP GA U7 JS:ET}(F:uB K "_law_sum_right" "_law_sum_right" EO f fd)(c:Fm K mg C)
 (QU:Bu P w K mg base (aS P w) 3 fp HP Es (kO i5))(QV:L2.aA K HP Es [])(QW:mg "_law_plus"=some (.ref fp))(QX:keepIn K (.ref fp)=true)
 (X5:Bu P w K mg base (aS P w) 3 ft GA Es (kO jB))(X6:L2.aA K GA Es [])(X7:mg "_law_times"=some (.ref ft))(X8:keepIn K (.ref ft)=true)
 (X9:Bu P w K mg base (aS P w) 7 fa U7 C8 (xr C CF))(Yb:L2.aA K U7 C8 [])(Yc:mg "_law_lacking"=some (.ref fa))(Yd:keepIn K (.ref fa)=true)
 (MS:Mk K C fs)(FS:Bu P w K mg base (aS P w) 6 fs JS xR (ug C CF))(bS:L2.aA K JS xR []):Bu P w K mg base (aS P w) 8 f fd vK (Di C CF):=by
 refine F.okN rA (λvs H Q E h=>?_) (λFJ A outer s H vs Q E hr h=>?_)
 ·obtain⟨fl,F3,wd,l,p,ys,ts,d,rfl,_⟩:=h;rfl
 ·obtain⟨fl,F3,wd,l,p,ys,ts,d,rfl,hf,hp,hw,gw,hl,ht,GC,q⟩:=h;have FY:om 1 _:=hr.mono (by decide);have HE:om 3 _:=hr.mono (by decide);have U8:om 7 _:=hr.mono (by decide);have hu:=(hr.units:_+64<cLine)
  replace hu:=Nat.lt_of_le_of_lt (Nat.add_le_add_left (by decide:1<=64) _) hu
  refine⟨_,(aj (@aK _ _ 4 _ _ _ _ rA.nd rfl (Or.inl rfl) (@bx _ _ _ _ _ (@aq _ _ _ _ _ ak (@aq _ _ _ _ _ ak ah rfl) rfl)) rfl (Or.inl rfl))
   (aj (oo (i:=5) (g:=(ji K 2 (ck (bz 0) (ck (bz 1) Ek)))) (N:=["_law_product_here","_law_number_here","_law_worths"]) (nl:=2) (js:=[2]) (osc:=ao EO) ⟨rfl,rfl,by decide +kernel,by decide +kernel,by decide +kernel,rfl,(.cons ⟨rfl,by decide +kernel⟩ .nil),by decide +kernel⟩ rfl rA.nd rfl (Or.inl rfl)
    (bY (pv 3))
    (λCq fq sq Hq=>(cK (X:=bD _ ["_law_product_here","_law_number_here","_law_worths"] _ Cq fq sq Hq) rfl (aI (aE (X:=bD _ ["_law_product_here","_law_number_here","_law_worths"] _ Cq fq sq Hq) (i:=0) (by show(["_law_product_here","_law_number_here","_law_worths"]:wk).Nodup;decide +kernel) rfl (Or.inl rfl) (Or.inr rfl)) (aI (aE (X:=bD _ ["_law_product_here","_law_number_here","_law_worths"] _ Cq fq sq Hq) (i:=1) (by show(["_law_product_here","_law_number_here","_law_worths"]:wk).Nodup;decide +kernel) rfl (Or.inl rfl) (Or.inr rfl)) bX))))
    (λCq fq sq Hq=>(fj (oA (mX hu (pv 0) (pv 2)))))
    (λCq fq sq Hq=>(pv 0)) (by rfl))
   (aj (c9 PassesOwn.never rfl (bY (pv 3)) (cK rfl (aI (aE (i:=6) rA.nd rfl (Or.inl rfl)) (aI (aE (i:=7) rA.nd rfl (Or.inl rfl)) bX)))
   (ar (@aK _ _ 4 _ _ _ _ rA.nd rfl (Or.inl rfl) (ax QU HE (by rfl) QW QX QV .nil ag (@aq _ _ _ _ _ (pv 1) (@aq _ _ _ _ _ (pv 4) (@aq _ _ _ _ _ (ax X5 HE (by rfl) X7 X8 X6 .nil ag (@aq _ _ _ _ _ (pv 1) (@aq _ _ _ _ _ (pv 7) (@aq _ _ _ _ _ (pb hu (pv 2) (pv 6) (@bx _ _ _ _ _ (@aq _ _ _ _ _ ak (@aq _ _ _ _ _ ak ah rfl) rfl)) ⟨rfl,rfl,rfl,rfl⟩) ah rfl) rfl) rfl)) ah rfl) rfl) rfl)) rfl (Or.inl rfl))))
   (aj (@aK _ _ 8 _ _ _ _ rA.nd rfl (Or.inl rfl) (ax X9 U8 (by rfl) Yc Yd Yb .nil ag (@aq _ _ _ _ _ (pv 2) (@aq _ _ _ _ _ (sY MS FS U8 (by rfl) c.mgC bS .nil ag (@aq _ _ _ _ _ (pv 0) (@aq _ _ _ _ _ (pv 3) ah rfl) rfl)) ah rfl) rfl)) rfl (Or.inl rfl))
   (aj (bg (@aN _ _ _ _ _ _ _ _ (xy FY) (pv 5) (@cD _ _ _ _ ah) (aM _)) (ar (aB (@cP _ _ _ _ _ _ _ _ (Bx FY) (pv 8) (pv 5) (by rfl)))) aJ)
   (ar (aB (@cP _ _ _ _ _ _ _ _ (BR FY) (pv 8) (@cD _ _ _ _ (@aq _ _ _ _ _ (pv 4) ah rfl)) (aM _))))))))),?_⟩
  have yl:=ht.length;have tl:=GC.len;have U9:=Bb hp gw GC.len GC.gn;refine⟨BJ,λa0 MH=>?_⟩;have s0:=au (o:=.tup [.int 0,.int 1]) MH;refine⟨_,rfl,l,rfl,⟨ys,aY.of (s0 _ _ hl)⟩,?_⟩;refine iL (a:=l) (xs:=ys) (rest:=[some (.ref wd)]) (λi zs H'=>ay (upd H a0 (.tup [.int 0,.int 1])) H'/\Paired (vh H') zs (((ts.take i).filter λt=>!has d t.1).map (·.1))) ⟨ay.refl _,.nil⟩ (λi zs H' hi GB=>?_) (λi x zs H' hi ex GB=>?_) (λzs H' GB=>?_)
  ·obtain⟨g1,g2⟩:=GB;refine⟨?_,aY.of (g1 _ _ (s0 _ _ hl))⟩;rw[g2.length,List.length_map];have:=List.length_filter_le (λt:Tm=>!has d t.1) (ts.take i);rw[List.length_take] at this;exact Nat.lt_of_le_of_lt (by omega:_<=5) (by decide)
  ·obtain⟨g1,g2⟩:=GB;have s1:=s0.trans g1;obtain⟨t,et,a,pr,nu,rfl,ha,Gb,He⟩:=aL (bR.keep ht (az.of s1)) ex;obtain⟨o,dg,io,_⟩:=(hw.same s1).look Gb
   have Gk:ts.take (i+1)=ts.take i++[t]:=by rw[List.take_add_one,et];rfl
   refine⟨a,.ref pr,.ref nu,rfl,bf.of ha,λN hN=>?_⟩;refine⟨_,rfl,_,rfl,wd,o,rfl,dg,_,rfl,?_⟩;rw[io]
   cases hz:has d t.1 with
   |true =>
    refine b8 (hN _ _ ⟨g1,?_⟩);rw[Gk,List.filter_append]
    have ef:([t].filter λt=>!has d t.1)=[]:=by simp[hz]
    rw[ef,List.append_nil];exact g2
   |false =>
    refine cb ⟨_,rfl,hN _ _ ⟨g1,?_⟩⟩;rw[Gk,List.filter_append]
    have ef:([t].filter λt=>!has d t.1)=[t]:=by simp[hz]
    rw[ef,List.map_append];exact Paired.snoc g2 ⟨pr,rfl,Gb⟩
  ·obtain⟨g1,g2⟩:=GB;intro Lk Rm;rw[yl,List.take_length] at g2;have s1:=s0.trans (g1.trans (au (o:=.lst zs) Rm));have Va:=g1.trans (au (o:=.lst zs) Rm);have g2:=Paired.aaW g2 (G:=vh (upd H' Lk (.lst zs))) λ_ _ ⟨a,e,h⟩=>⟨a,e,au Rm _ _ h⟩;have MV:upd H' Lk (.lst zs) Lk=some (.lst zs):=ae;have Vb:upd H' Lk (.lst zs) a0=some (bE 0 1):=Va _ _ ae;generalize upd H' Lk (.lst zs)=H1 at s1 Va g2 MV Vb |-;refine⟨_,rfl,l,rfl,⟨ys,aY.of (s1 _ _ hl)⟩,?_⟩;refine⟨λi m σ' H'=>m=ts.length-i/\i<=ts.length/\ay H1 H'/\(∃a,H' a=some (bE (eG p ((vN d ts).take i)).1 (eG p ((vN d ts).take i)).2)/\∃o6 o7,σ'=[some (.ref fl),some (.int p),some (.ref wd),some (.ref l),some (.ref a),some (.ref Lk),o6,o7,none]),⟨ts.length,by simp,Nat.zero_le _,ay.refl _,a0,Vb,none,none,rfl⟩,?_⟩;rintro i m σ' H' ⟨rfl,hi,sH,a,ha,o6,o7,rfl⟩;have s2:=s1.trans sH
   by_cases FO:i<ts.length
   ·have K7:i<ys.length:=by omega
    refine .inr ⟨⟨ys,ys[i],aY.of (s2 _ _ hl),by simp[K7]⟩,λσ' H'=>ay H1 H'/\(∃a,H' a=some (bE (eG p ((vN d ts).take (i+1))).1 (eG p ((vN d ts).take (i+1))).2)/\∃o6 o7,σ'=[some (.ref fl),some (.int p),some (.ref wd),some (.ref l),some (.ref a),some (.ref Lk),o6,o7,none]),?_,λy H2 hy=>?_⟩
    ·rintro σ' H' ⟨g1,g2⟩;exact⟨ts.length-(i+1),by omega,rfl,FO,g1,g2⟩
    ·obtain⟨rfl,hy⟩:=hy;obtain⟨t,et,b,pr,nu,rfl,hb,Gb,He⟩:=aL (bR.keep ht (az.of s2)) (hy ys (aY.of (s2 _ _ hl)));refine⟨b,_,rfl,bf.of hb,rfl,_,_,rfl,_,_,rfl,rfl,?_⟩;refine⟨_,rfl,_,rfl,_,rfl,_,rfl,_,rfl,wd,rfl,(hw.same s2).isD,_,rfl,BJ,λz hz=>?_⟩;have s3:=au (o:=.tup [.int 0,.int 1]) hz;obtain⟨o,dg,_,gt⟩:=((hw.same s2).same s3).look (s3 _ _ Gb);obtain⟨aw,eo,LV⟩:=gt z ae;refine⟨o,dg,?_⟩;rw[eo];have gn:=GC.gn t (List.mem_of_getElem? et);have gv:=AZ hp gw t.1;refine⟨p,t.2.1,t.2.2,(wv d t.1).1,(wv d t.1).2,nu,aw,rfl,hp,s3 _ _ He,LV,gn.2.1.mono (by decide),gn.2.2.mono (by decide),gv.2.1.mono (by decide),gv.2.2.mono (by decide),gn.ne,gv.ne,λz=>?_,λH4 am s4 Ye=>?_⟩
     ·rw[(gn.1.pr z).1,(gv.1.pr z).1];rfl
     have s5:=s3.trans s4;have gm:=mx hp gn gv (by decide);have gd:=qt hp ((vN d ts).take i).length ((vN d ts).take i) rfl λx hx=>U9.num x (List.mem_of_mem_take hx)
     have ll:((vN d ts).take i).length<=4:=by rw[List.length_take,List.length_map];omega
     have Gk:(vN d ts).take (i+1)=(vN d ts).take i++[(t.2,wv d t.1)]:=by rw[List.take_add_one,List.getElem?_map,et];rfl
     refine⟨p,_,_,_,_,a,am,rfl,hp,s5 _ _ ha,Ye,gd.2.1.mono (by omega),gd.2.2.mono (by omega),gm.2.1.mono (by decide),gm.2.2.mono (by decide),gd.ne,gm.ne,λz=>?_,λH5 a5 s6 Yg=>?_⟩
     ·have e1:=(gd.1.pr z).1;have e2:=(gm.1.pr z).1;rw[e1];rw[show(eE p (jB t.2.1 t.2.2 (wv d t.1).1 (wv d t.1).2) (t.2.2*(wv d t.1).2))=1 from e2];rfl
     rw[Gk,qv];exact⟨sH.trans (s5.trans s6),a5,Yg,_,_,rfl⟩
   ·have ei:i=ts.length:=by omega
    subst ei;refine .inl ⟨⟨ys,aY.of (s2 _ _ hl),by omega⟩,?_⟩;rw[List.take_of_length_le (by rw[List.length_map];exact Nat.le_refl _)] at ha;refine⟨_,rfl,_,rfl,_,rfl,λs0 dx h1 h2 ne=>?_⟩;have hS:ay H' (upd (upd H' dx (.own s0)) s0 (.ins C dx [])):=(au h2).trans (au (by rw[ai (Ne.symm ne)];exact h1));have s3:=s2.trans hS;have pr:=GC.prd;have Rn:BG p ts:=BG.of (m:=283) hp (by omega) (λt h=>(pr t h).1) (by omega) (by decide);refine⟨s0,dx,fl,F3,p,.ref l,ts,rfl,ae,s3 _ _ hf,hp,.inr ⟨l,ys,rfl,s3 _ _ hl,bR.keep ht (az.of s3)⟩,Rn,λt h=>(pr t h).2,λH3 D Yh sb hD e1 e2 e3=>⟨rfl,?_⟩⟩;have sM:=u6 h1 h2 ne sb;have s4:=s2.trans sM;rw[GC.self] at e3;have sr:zU C CF H3 s0 p ts:=⟨dx,fl,F3,D,Yh,e1,s4 _ _ hf,e2,e3⟩;refine⟨wd,s0,p,ts,d,rfl,hw.same s4,sr,hp,GC.len,?_⟩;have Lj:H3 Lk=some (.lst zs):=sM _ _ (sH _ _ MV);have g3:=Paired.aaW g2 (G:=vh H3) λ_ _ ⟨a,e,h⟩=>⟨a,e,sM _ _ (sH _ _ h)⟩
    by_cases hz:(ts.filter λt=>!has d t.1)=[]
    ·have zn:zs=[]:=by
      rw[hz] at g3
      cases g3
      rfl
     subst zn;refine .inl ⟨vN d ts,AC (zO hz),U9,λH4 Df af s5 Yi Yj=>?_⟩;refine⟨_,rfl,Nat.zero_le _,λz LL=>?_⟩;have s6:=au (o:=.lst []) LL;refine⟨Lk,z,[],rfl,rfl,aY.of (s6 _ _ (s5 _ _ Lj)),aY.of ae,_,rfl,b8 ?_⟩;refine⟨_,rfl,_,rfl,A5,λz2 Ro=>?_⟩;have s7:=au (o:=.lst [.ref a]) Ro;refine⟨_,_,oO (s7 _ _ (s6 _ _ Yi)) (s7 _ _ (s6 _ _ Yj)),oO ae (s7 _ _ (s6 _ _ (s5 _ _ (sM _ _ ha)))),(by rw[zo];decide),?_⟩;rw[eO];exact q _ (s4.trans (s5.trans (s6.trans s7)))
    ·obtain⟨k,t,et,hb,hn⟩:=oV hz;refine .inr ⟨k,t,et,hb,oy hn,λH4 pr s5 Gb=>?_⟩;refine⟨_,rfl,Nat.zero_le _,λz LL=>?_⟩;have s6:=au (o:=.lst []) LL
     have Yk:zs≠[]:=λz=>by
      rw[z] at g3;have:=g3.length;rw[List.length_map] at this;exact hz (List.length_eq_zero_iff.mp this.symm)
     refine⟨Lk,z,zs,rfl,rfl,aY.of (s6 _ _ (s5 _ _ Lj)),aY.of ae,_,rfl,?_⟩;rw[decide_eq_false Yk];refine cb ⟨_,rfl,_,rfl,Lk,zs,_,pr,t.1,rfl,rfl,aY.of (s6 _ _ (s5 _ _ Lj)),Paired.aaW g3 λ_ _ ⟨a,e,h⟩=>⟨a,e,s6 _ _ (s5 _ _ h)⟩,s6 _ _ Gb,?_⟩;have mem:t.1∈(ts.filter λt=>!has d t.1).map (·.1):=List.mem_map_of_mem (List.mem_filter.mpr ⟨List.mem_of_getElem? et,by rw[hn];rfl⟩);rw[decide_eq_true mem];exact q _ (s4.trans (s5.trans s6))
noncomputable abbrev Ep:Stmt:=(aV 64)
theorem zj:uZ ["_law_worths","_law_degree","_law_found","_law_due","_law_kept"] Er (ao Ep):=d8 (by decide +kernel)
structure WD (H:Hp)(wd:Addr)(o:Obj)(FF:List (List Key×V))(d:List Tm):Prop where
 e:H wd=some (k9 o FF)
 r:DR H FF d
 nd:(d.map (·.1)).Nodup
 len:d.length<=64
 sm:∀e∈d,(∀k∈e.1,0<=k/\k<10)/\e.1.length<=10/\B 60 e.2.1/\B 60 e.2.2
 one:∃n,d[0]?=some ([],n)
variable {FF:List (List Key×V)}
theorem WD.same {H':Hp}{o:Obj}(h:WD H wd o FF d)(s:ay H H'):WD H' wd o FF d:=⟨s _ _ h.e,h.r.keep (az.of s),h.nd,h.len,h.sm,h.one⟩
theorem WD.hw {o:Obj}(h:WD H wd o FF d):HW H wd d:=⟨⟨o,FF,h.e,h.r⟩,h.nd⟩
noncomputable def Fu (e:Tm):PyData×PyData:=(.tuple (e.1.map PyData.int),.tuple [.int e.2.1,.int e.2.2])
noncomputable def sW (d:List Tm):List (PyData×PyData):=d.map Fu
theorem zg (k:List Int):(dR k).map qY=k.map PyData.int:=by
 unfold dR;rw[List.map_map];rfl
theorem jS :∀{FF:List (List Key×V)}{d:List Tm},DR H FF d->Paired (vw K H) FF (sW d)
 |_,_,.nil=>.nil
 |_,_,.cons (a:=kv) (b:=e) ⟨e1,a,e2,ha⟩ t=>by
  refine .cons ⟨?_,?_⟩ (jS t)
  ·show PyData.tuple (e.1.map PyData.int)=.tuple (kv.1.map qY);rw[e1,zg]
  ·show jf K H (.tuple [.int e.2.1,.int e.2.2]) kv.2;rw[e2];unfold jf;refine⟨a,_,rfl,bf.of ha,?_⟩;unfold fK;refine⟨_,_,rfl,by unfold jf;rfl,?_⟩;unfold fK;refine⟨_,_,rfl,by unfold jf;rfl,?_⟩;unfold fK;rfl
theorem Ct {n:Int}(h:B 60 n):PyData.showable (.int n)=true:=by
 unfold PyData.showable;refine decide_eq_true ?_
 by_cases z:n.natAbs=0
 ·rw[z];decide
 ·have:n.natAbs.log2<60:=(Nat.log2_lt z).mpr h;omega
theorem nN:∀{ns:List Int},(∀n∈ns,B 60 n)->PyData.showableAll (ns.map PyData.int)=true
 |[],_=>rfl
 |n::ns,h=>by
  show PyData.showableAll (.int n::ns.map PyData.int)=true;unfold PyData.showableAll;rw[Ct (h n List.mem_cons_self),nN λm hm=>h m (List.mem_cons_of_mem _ hm)];rfl
theorem ou:∀ns:List Int,PyData.depthAll (ns.map PyData.int)=0
 |[]=>rfl
 |n::ns=>by
  show max (PyData.depth (.int n)) (PyData.depthAll (ns.map PyData.int))=0;rw[ou ns];rfl
theorem lj:∀ns:List Int,yL (ns.map PyData.int)=1923*ns.length
 |[]=>rfl
 |n::ns=>by
  show wt (.int n)+2+yL (ns.map PyData.int)=_;rw[lj ns,List.length_cons];show 1921+2+_=_;omega
theorem oH:∀{d:List Tm},(∀e∈d,(∀k∈e.1,0<=k/\k<10)/\e.1.length<=10/\B 60 e.2.1/\B 60 e.2.2)->PyData.showableKv (sW d)=true/\PyData.depthKv (sW d)<=50/\nK (sW d)<=30000*d.length+3
 |[],_=>⟨rfl,Nat.zero_le _,Nat.le_refl _⟩
 |e::d,h=>by
  obtain⟨i1,i2,i3⟩:=oH (d:=d) λx hx=>h x (List.mem_cons_of_mem _ hx);obtain⟨a1,a2,a3,a4⟩:=h e List.mem_cons_self
  have Yl:∀n∈e.1,B 60 n:=λn hn=>by
   have:=a1 n hn;show n.natAbs<2^60;omega
  refine⟨?_,?_,?_⟩
  ·show(PyData.showable (.tuple (e.1.map PyData.int))&&PyData.showable (.tuple ([e.2.1,e.2.2].map PyData.int))&&PyData.showableKv (sW d))=true
   rw[i1,show PyData.showable (.tuple (e.1.map PyData.int))=true from nN Yl,show PyData.showable (.tuple ([e.2.1,e.2.2].map PyData.int))=true from nN (λn hn=>by
    have:n=e.2.1\/n=e.2.2:=by simpa using hn
    rcases this with rfl|rfl
    ·exact a3
    ·exact a4)]
   rfl
  ·show max (max (PyData.depthAll (e.1.map PyData.int)+1) (PyData.depthAll ([e.2.1,e.2.2].map PyData.int)+1)) (PyData.depthKv (sW d))<=50;rw[ou,ou];omega
  ·show yL (e.1.map PyData.int)+3+(yL ([e.2.1,e.2.2].map PyData.int)+3)+4+nK (sW d)<=_;rw[lj,lj];show 1923*e.1.length+3+(1923*2+3)+4+nK (sW d)<=30000*(d.length+1)+3;omega
theorem qr {kb:List (List Key×V)}:∀{ka:List (List Key×V)},(∀kv∈ka,fG kb kv.1=some kv.2/\∃d,aH K H d kv.2/\jn d<=32)->uK K H kb ka true
 |[],_=>.nil
 |(k,v):: r,h=>by
  obtain⟨h1,d,h2,h3⟩:=h (k,v) List.mem_cons_self;have z:uK K H kb ((k,v):: r) (gH d d&&true):=.hit h1 h2 h2 h3 (qr λkv hm=>h kv (List.mem_cons_of_mem _ hm));rw[eO] at z;exact z
theorem oM:∀{FF:List (List Key×V)},(FF.map (·.1)).Nodup->∀kv∈FF,fG FF kv.1=some kv.2
 |[],_,kv,h=>nomatch h
 |Ym::r,nd,kv,h=>by
  rw[List.map_cons,List.nodup_cons] at nd
  rcases List.mem_cons.mp h with rfl|h
  ·exact fY rfl
  ·have ne:¬Ym.1=kv.1:=λz=>nd.1 (by rw[z];exact List.mem_map_of_mem h);rw[eB ne];exact oM nd.2 kv h
theorem zE (h:DR H FF d):∀kv∈FF,∃x,aH K H x kv.2/\jn x<=32:=λkv hm=>by
 obtain⟨j,hj⟩:=List.mem_iff_getElem?.mp hm;obtain⟨e,_,_,a,e2,ha⟩:=aL h hj;have e2:kv.2=.ref a:=e2;rw[e2];refine⟨_,p6 ha,?_⟩
 have:jn (.tup [.int e.2.1,.int e.2.2])=1:=by simp[jn,gL]
 rw[this];decide
variable {i:Int}
theorem xq (h:(FF.map (·.1)).Nodup):((cH i FF).map (·.1)).Nodup:=h.sublist (List.filter_sublist.map _)
theorem pF (h:DR H FF d)(nd:(FF.map (·.1)).Nodup):uK K H (cH i FF) (cH i FF) true :=
 qr λkv hm=>⟨oM (xq nd) kv hm,zE h kv ((List.mem_filter.mp hm).1)⟩
theorem m6:∀(n:Nat)(FF:List (List Key×V)),FF.length=n->(FF.map (·.1)).Nodup->d7 FF=FF
 |0,FF,h,_=>by
  have:FF=[]:=List.length_eq_zero_iff.mp h;subst this;rfl
 |n+1,FF,h,nd=>by
  obtain⟨Ga,t,rfl⟩:∃Ga t,FF=Ga++[t]:=by
   have FX:FF≠[]:=by intro z;rw[z] at h;cases h
   exact⟨FF.dropLast,FF.getLast FX,(List.dropLast_concat_getLast FX).symm⟩
  have hl:Ga.length=n:=by simpa using h
  rw[List.map_append,List.nodup_append] at nd;rw[gh,m6 n Ga hl nd.1,iB λz=>nd.2.2 _ z _ (by simp) rfl]
theorem wJ {v:V}(h0:0<=i)(h:FF[0]?=some ([],v)):(cH i FF)[0]?=some ([],v):=by
 cases FF with
 |nil=>simp at h
 |cons kv r =>
  have:kv=([],v):=by simpa using h
  subst this;unfold cH;rw[List.filter_cons,if_pos (by simpa using h0)];rfl
noncomputable def rp:Sp:=λvs H Q _=>∃(wd:Addr)(o:Obj)(FF:List (List Key×V))(d:List Tm)(i:Int),vs=[.ref wd,.int i]/\0<=i/\i<=300/\WD H wd o FF d/\∀H',ay H H'->Q (.bl true) H'
theorem CU {f fc CN:Addr}{fd HR:ET}(F:uB K "_law_cut_right" "_law_cut_right" Ep f fd)(hS:oj K)(m_len:mg "len"=none)(Hf:mg "dict"=none)(m_repr:mg "repr"=none)(FH:mg "isinstance"=none)
 (Pw:Bu P w K mg base (aS P w) 3 fc HR CT (p5 CN))(Px:L2.aA K HR CT [])(Py:mg "cut"=some (.ref fc))(Pz:keepIn K (.ref fc)=true):Bu P w K mg base (aS P w) 4 f fd Er rp:=by
 refine F.okN zj (λvs H Q E h=>?_) (λFJ A outer s H vs Q E hr h=>?_)
 ·obtain⟨wd,o,FF,d,i,rfl,_⟩:=h;rfl
 ·obtain⟨wd,o,FF,d,i,rfl,h0,h3,W,q⟩:=h;have FY:om 1 _:=hr.mono (by decide);have HE:om 3 _:=hr.mono (by decide);have hu:=(hr.units:_+64<cLine)
  replace hu:=Nat.lt_of_le_of_lt (Nat.add_le_add_left (by decide:1<=64) _) hu
  refine⟨_,(aj (@aK _ _ 2 _ _ _ _ zj.nd rfl (Or.inl rfl) (ax Pw HE (by rfl) Py Pz Px .nil ag (@aq _ _ _ _ _ (pv 0) (@aq _ _ _ _ _ (pv 1) ah rfl) rfl)) rfl (Or.inl rfl))
   (aj (@aK _ _ 3 _ _ _ _ zj.nd rfl (Or.inl rfl) (eN (qK FY rfl) (by rfl) Hf (by rfl) (@aq _ _ _ _ _ (dN (g:=(ji K 2 (ck (bz 0) (ck (bz 1) Ek)))) (N:=["_law_product_here","_law_number_here","_law_degree"]) (nl:=2) (js:=[1]) (osc:=ao Ep) ⟨rfl,rfl,by decide +kernel,by decide +kernel,by decide +kernel,rfl,(.cons ⟨rfl,by decide +kernel⟩ .nil),by decide +kernel⟩ rfl
    (ki (pv 0))
    (λCq fq sq Hq=>(cK (X:=bD _ ["_law_product_here","_law_number_here","_law_degree"] _ Cq fq sq Hq) rfl (aI (aE (X:=bD _ ["_law_product_here","_law_number_here","_law_degree"] _ Cq fq sq Hq) (i:=0) (by show(["_law_product_here","_law_number_here","_law_degree"]:wk).Nodup;decide +kernel) rfl (Or.inl rfl) (Or.inr rfl)) (aI (aE (X:=bD _ ["_law_product_here","_law_number_here","_law_degree"] _ Cq fq sq Hq) (i:=1) (by show(["_law_product_here","_law_number_here","_law_degree"]:wk).Nodup;decide +kernel) rfl (Or.inl rfl) (Or.inr rfl)) bX))))
    (λCq fq sq Hq=>(fj (@aN _ _ _ _ _ _ _ _ me (aF (iY (K:=K) rfl) (by rfl) m_len PySem.boot_len (@aq _ _ _ _ _ (pv 0) ah rfl)) (pv 2) (aM _))))
    (λCq fq sq Hq=>(@bx _ _ _ _ _ (@aq _ _ _ _ _ (pv 0) (@aq _ _ _ _ _ (pv 1) ah rfl) rfl)))) ah rfl)) rfl (Or.inl rfl))
   (aj (bg (PW.pt (iA (cp (cq (aF bq (by rfl) FH (by rfl) (@aq _ _ _ _ _ (pv 2) (@aq _ _ _ _ _ (du (by rfl) Hf (by rfl) (show aC (.ty "dict") (.type "dict") from rfl)) ah rfl) rfl)))) (fe (@aN _ _ _ _ _ _ _ _ (Ci FY) (pv 2) (pv 3) (aM _))))) (ar (aB fF)) aJ)
   (aj (@aK _ _ 4 _ _ _ _ zj.nd rfl (Or.inl rfl) (aF (eY FY hS) (by rfl) m_repr (by rfl) (@aq _ _ _ _ _ (pv 0) ah rfl)) rfl (Or.inl rfl))
   (aj (ib hu (pv 2) (@bx _ _ _ _ _ (@aq _ _ _ _ _ ak ah rfl)) n9 (by rfl))
   (aj (jy (xY hu (pv 2) (@bx _ _ _ _ _ ah) ⟨rfl,rfl,rfl,rfl⟩))
   (ar (aB (fZ (@cP _ _ _ _ _ _ _ _ dC (aF (eY FY hS) (by rfl) m_repr (by rfl) (@aq _ _ _ _ _ (pv 0) ah rfl)) (pv 4) (aM _)) (iM (@cP _ _ _ _ _ _ _ _ (Cr FY) (ax Pw HE (by rfl) Py Pz Px .nil ag (@aq _ _ _ _ _ (pv 0) (@aq _ _ _ _ _ (pv 1) ah rfl) rfl)) (pv 3) (aM _)))))))))))),?_⟩
  have kn:=oE W.r W.nd
  have kl:FF.length<=64:=by rw[W.r.length];exact W.len
  obtain⟨LW,LX,LY⟩:=oH W.sm;have cl:(cH i FF).length<=64:=Nat.le_trans (List.length_filter_le _ _) kl;refine⟨_,rfl,_,rfl,wd,.int i,"int",o,FF,rfl,W.e,kn,by omega,.int i,.inl ⟨i,rfl,h0,h3,λH1 D s1 Rk hD=>?_⟩⟩;refine⟨_,rfl,wd,FF,rfl,.inl ⟨o,s1 _ _ W.e,?_⟩⟩;refine⟨λj m xs σ' H2=>m=FF.length-j/\j<=FF.length/\ay H1 H2/\Paired (qZ H2) xs (cH i (FF.take j))/\∃o1 o2,σ'=[o1,o2,some (.int i)],⟨FF.length,by simp,Nat.zero_le _,ay.refl _,.nil,none,none,rfl⟩,?_⟩;rintro j m xs σ' H2 ⟨rfl,hj,s2,hx,o1,o2,rfl⟩
  have xl:xs.length<=64:=by
   rw[hx.length];refine Nat.le_trans (List.length_filter_le _ _) ?_;rw[List.length_take];omega
  refine⟨Nat.lt_of_le_of_lt xl (by decide),?_⟩
  by_cases FO:j<FF.length
  ·refine .inr ⟨⟨FO,s2 _ _ (s1 _ _ W.e)⟩,λx H3 Ji=>?_⟩;obtain⟨pp,b,k,v,hk,IA,hb,rfl,rfl⟩:=Ji;have sP:ay H2 (upd H2 pp (.tup [.ref b,v])):=au IA;refine⟨pp,_,rfl,bf.of ae,rfl,_,_,rfl,_,_,rfl,rfl,?_⟩;refine⟨_,rfl,b,_,rfl,.inr (bf.of (sP _ _ hb)),_,rfl,_,_,rfl,rfl,_,rfl,?_⟩
   have Gk:FF.take (j+1)=FF.take j++[(k,v)]:=by rw[List.take_add_one,hk];rfl
   rw[List.length_map];have cs:=m4 i (FF.take j) (k,v);rw[<-Gk] at cs
   cases hz:decide ((k.length:Int)<=i) with
   |true =>
    rw[show decide (((k,v):List Key×V).1.length<=i)=true from hz,if_pos rfl] at cs;refine cb ⟨_,rfl,_,rfl,BJ,λt' K9=>?_⟩;have sT:=au (o:=.tup [.ref b,v]) K9;refine⟨FF.length-(j+1),by omega,rfl,FO,s2.trans (sP.trans sT),?_,_,_,rfl⟩;rw[cs];refine Paired.snoc (Paired.aaW hx λ_ _ ⟨p,b,e1,e2,e3⟩=>⟨p,b,e1,sT _ _ (sP _ _ e2),sT _ _ (sP _ _ e3)⟩) ⟨t',b,rfl,ae,sT _ _ (sP _ _ hb)⟩
   |false =>
    rw[show decide (((k,v):List Key×V).1.length<=i)=false from hz,if_neg Bool.false_ne_true] at cs;refine b8 ⟨FF.length-(j+1),by omega,rfl,FO,s2.trans sP,?_,_,_,rfl⟩;rw[cs];exact Paired.aaW hx λ_ _ ⟨p,b,e1,e2,e3⟩=>⟨p,b,e1,sP _ _ e2,sP _ _ e3⟩
  ·have ej:j=FF.length:=by omega
   subst ej;rw[List.take_length] at hx;refine .inl ⟨⟨by omega,s2 _ _ (s1 _ _ W.e)⟩,λL hL=>?_⟩;have sL:=au (o:=.lst xs) hL;refine⟨L,xs,_,rfl,aY.of ae,Paired.aaW hx λ_ _ ⟨p,b,e1,e2,e3⟩=>⟨p,b,e1,sL _ _ e2,sL _ _ e3⟩,Nat.le_trans cl (by decide),λD2 HU=>?_⟩;rw[m6 _ _ rfl (xq kn)];have s3:ay H1 (upd (upd H2 L (.lst xs)) D2 (.dT (cH i FF))):=(s2.trans sL).trans (au HU);have hd2:upd (upd H2 L (.lst xs)) D2 (.dT (cH i FF)) D2=some (.dT (cH i FF)):=ae
   have ne:D2≠D:=λz=>by
    have:=(s2.trans sL) _ _ hD;rw[<-z,HU] at this
    cases this
   generalize upd (upd H2 L (.lst xs)) D2 (.dT (cH i FF))=H3 at s3 hd2 |-;have MK:=s3 _ _ hD;have s4:=s1.trans s3;have W3:=W.same s4;refine⟨_,rfl,.ref D,.ty "dict",_,_,_,rfl,rfl,.of (.dT MK),rfl,_,rfl,b8 ?_⟩;refine⟨_,rfl,_,rfl,D,D2,_,_,true,rfl,rfl,.inl MK,.inl hd2,λ_=>pF W3.r kn,_,rfl,?_⟩
   have e0:(((cH i FF).length==(cH i FF).length&&true) != true)=false:=by simp
   rw[e0];refine b8 ?_;refine⟨_,rfl,wd,FF,_,rfl,.inr ⟨o,W3.e⟩,jS W3.r,LW,LX,Nat.le_trans LY (by have:=W.len;omega),?_⟩;refine⟨_,rfl,A5,λz hz=>?_⟩;have sz:=au (o:=.tup [.int 59]) hz;refine⟨D,_,rfl,kg.t (k:=[.inl 59]) (sz _ _ MK) ae (Nat.lt_of_le_of_lt cl (by decide)),?_⟩
   have Rp:([Sum.inl 59]:List Key)∉(cH i FF).map (·.1):=λm=>by
    obtain⟨kv,hm,ek⟩:=List.mem_map.mp m;obtain⟨j,hj⟩:=List.mem_iff_getElem?.mp (List.mem_filter.mp hm).1;obtain⟨e,he,e1,_⟩:=aL W.r hj;have e1:kv.1=dR e.1:=e1;have e2:e.1=[59]:=fh (e1.symm.trans ek);have:=((W.sm e (List.mem_of_getElem? he)).1 59 (by rw[e2];simp)).2;omega
   rw[iB Rp]
   have J5:SameBut D H3 (upd (upd H3 z (.tup [.int 59])) D (.dT (cH i FF++[([Sum.inl 59],V.non)]))):=λb u e nb=>by rw[ai nb];exact sz _ _ e
   have Rq:upd (upd H3 z (.tup [.int 59])) D (.dT (cH i FF++[([Sum.inl 59],V.non)])) D=some (.dT (cH i FF++[([Sum.inl 59],V.non)])):=ae;generalize upd (upd H3 z (.tup [.int 59])) D (.dT (cH i FF++[([Sum.inl 59],V.non)]))=H4 at J5 Rq |-;obtain⟨n,MW⟩:=W.one
   obtain⟨v0,Yn⟩:∃v0,FF[0]?=some ([],v0):=by
    have l0:0<FF.length:=by
     rw[W.r.length];exact(List.getElem?_eq_some_iff.mp MW).1
    obtain⟨e,he,e1,_⟩:=aL W.r (List.getElem?_eq_getElem l0);have:e=([],n):=Option.some.inj (he.symm.trans MW);subst this;refine⟨(FF[0]).2,?_⟩;rw[List.getElem?_eq_getElem l0];exact congrArg some (Prod.ext e1 rfl)
   have QE:=wJ h0 Yn;have l1:0<(cH i FF).length:=(List.getElem?_eq_some_iff.mp QE).1;refine⟨_,rfl,D,rfl,.inr ⟨_,.inl Rq⟩,Nat.zero_le _,λz2 Ro=>?_⟩;have BJ:=au (o:=.tup []) Ro;refine⟨_,[],0,v0,z2,BJ _ _ Rq,rfl,ae,by rw[List.getElem?_append_left l1];exact QE,?_⟩
   have J6:SameBut D H3 (upd (upd H4 z2 (.tup [])) D (.dT ((cH i FF++[([Sum.inl 59],V.non)]).eraseIdx 0))):=λb u e nb=>by rw[ai nb];exact BJ _ _ (J5 _ _ e nb)
   generalize upd (upd H4 z2 (.tup [])) D (.dT ((cH i FF++[([Sum.inl 59],V.non)]).eraseIdx 0))=H5 at J6 |-;have s5:ay H H5:=λb u e=>J6 _ _ (s4 _ _ e) (av e Rk);have W5:=W.same s5;have Yo:H5 D2=some (.dT (cH i FF)):=J6 _ _ hd2 ne;refine⟨_,rfl,wd,FF,_,rfl,.inr ⟨o,W5.e⟩,jS W5.r,LW,LX,Nat.le_trans LY (by have:=W.len;omega),_,rfl,rfl,_,rfl,?_⟩;rw[decide_eq_true rfl];refine cb ?_;refine⟨_,rfl,_,rfl,wd,.int i,"int",o,FF,rfl,W5.e,kn,by omega,.int i,.inl ⟨i,rfl,h0,h3,λH6 D6 s6 Yp Yq=>?_⟩⟩;refine⟨_,rfl,D6,D2,_,_,true,rfl,rfl,.inl Yq,.inl (s6 _ _ Yo),λ_=>pF (W5.same s6).r kn,?_⟩
   have e1:(((cH i FF).length==(cH i FF).length&&true) != false)=true:=by simp
   rw[e1];exact q _ (s5.trans s6)
end K24
namespace L2
open PySem PySem.Spec PyProof.Rows PySem.W
theorem oP {X:Cx}{k:Nat}(hr:om k X.A)(hS:oj X.K):bZ X (.builtin "repr") (λxs H Q=>∃a FF ds,xs=[.ref a]/\DW H a FF λo H2=>Paired (vw X.K H2) FF ds/\PyData.showableKv ds=true/\PyData.depthKv ds<=50/\nK ds<=16777216/\Q (.str (PyData.dict ds).shown) H2):=by
 intro pins s σ H vs us Q I r h;obtain⟨a,FF,ds,rfl,fz⟩:=h;obtain⟨o,H2,I2,e,h1,h2,h3,h4,q⟩:=rg I fz;exact eY hr hS pins s σ H2 _ us Q I2 r ⟨a,FF,ds,rfl,.inr ⟨o,e⟩,h1,h2,h3,h4,q⟩
end L2
namespace K24
open PySem L2 PySem.W Nm Srt
noncomputable abbrev gD:Stmt:=(aV 65)
noncomputable abbrev NW:List Str:=["_law_script","_law_k","_law_room_here","_law_prime_here","_law_field","_law_many","_law_degree","_law_worths","_law_product_here","_law_kept","_law_turn","_law_rows","_law_size","_law_odd"]
theorem dQ:uZ NW ["_law_script"] (ao gD):=d8 (by decide +kernel)
noncomputable abbrev XL (P:vQ)(w:World)(K:Frag)(mg:FA)(base:Heap)(fl:Addr)(FJ:Value)(A:Around)(outer:List Env)(s:Fp)(H0:Hp)(E:XK):Cx:=(dw (aS P w) P w K mg base NW "law" (ao gD) fl FJ A outer s H0 E).nox
noncomputable def AA (s:Stmt):List Stmt:=match s with
 | .For _ _ b _ _=>b
 |_=>[]
noncomputable def uo:List Stmt:=AA ((bo gD).getD 0 (.Pass ⟨0,0,0,0⟩))
noncomputable def BH:Expr->Expr
 | .Compare (.Call _ (e::_) _ _) _ _ _=>e
 | .BoolOp _ (_ :: .Compare (.Call _ (e::_) _ _) _ _ _::_) _=>e
 |_=>.Name "" ⟨0,0,0,0⟩
noncomputable def Bv (s:Stmt):Expr:=match s with
 | .If t _ _ _=>t
 |_=>.Name "" ⟨0,0,0,0⟩
noncomputable abbrev wM:Expr:=BH (Bv ((AA (uo.getD 11 (.Pass ⟨0,0,0,0⟩))).getD 0 (.Pass ⟨0,0,0,0⟩)))
noncomputable def lD (e:Expr):Scope:=match e with| .Lambda _ _ sc _=>sc|_=>ao gD
noncomputable def AU (e:Expr):Pos:=match e with| .Lambda _ _ _ p=>p|_=>⟨0,0,0,0⟩
noncomputable def qX (e:Expr):Expr:=match e with| .Lambda _ b _ _=>b|_=>.Name "" ⟨0,0,0,0⟩
noncomputable def xx (e:Expr):Arguments:=match e with| .Lambda ps _ _ _=>ps|_=>bH gD
noncomputable abbrev Ey:Str:="law"++".<locals>."++"<lambda>"
noncomputable def Ce:List Pos:=[AU wM]
theorem Bp:∀p∈Ce,∀p'∈Ce,((p.line:Int)=p'.line/\(p.col:Int)=p'.col)->p=p':=by decide +kernel
noncomputable abbrev qH (Pt:Addr)(H:Hp):Prop:=j7 Ce Ey Pt H
noncomputable def Kp (H H':Hp):Prop:=∀b o,H b=some o->(∀ps,o≠.tbl ps)->H' b=some o
variable {H H':Hp}
theorem Kp.of (s:ay H H'):Kp H H':=λb o e _=>s b o e
theorem Kp.trans {H1 H2:Hp}(a:Kp H H1)(b:Kp H1 H2):Kp H H2:=λc o e k=>b c o (a c o e k) k
theorem Kp.bt {Pt:Addr}{ps:Cm}(e:H Pt=some (.tbl ps))(s:rJ Pt H H'):Kp H H':=λb o h k=>s b o h λz=>by
 rw[z,e] at h;exact k _ (Option.some.inj h).symm
theorem Kp.tup (k:Kp H H'):az H H':=λb xs e=>k b _ e λ_ z=>by cases z
variable {a:Addr}
theorem Kp.lst (k:Kp H H'){xs:List V}(e:H a=some (.lst xs)):H' a=some (.lst xs):=k a _ e λ_ z=>by cases z
theorem FP.good {p:Int}(h:FP p):good (.int p)=true:=by
 show i6 p=true;unfold i6
 rcases h with h|h
 ·rw[h];rfl
 ·have:(yV.any λq=>q==p)=true:=by
   rw[List.any_eq_true];exact⟨p,h,by simp⟩
  rw[this];simp
theorem qQ {CF Ik fl F3:Addr}{p:Int}{Q:Hp->Prop}{E:XK}(hf:H fl=none)(hd:H F3=none)(ne:F3≠fl)(hp:FP p)(q:∀H',ay H H'->H' fl=some (.ins CF F3 (gZ p))->Q H'):
 rn CF Ik [.ref fl,.int p] (upd (upd H F3 (.own fl)) fl (.ins CF F3 [])) (λv H2=>v=.non/\Q H2) E:=by
 refine⟨fl,F3,.int p,"int",rfl,.int p,ae,λ_=>⟨rfl,?_⟩,λg=>by rw[hp.good] at g;cases g⟩;rw[sv];exact q _ ((au hd).trans (au (by rw[ai (Ne.symm ne)];exact hf))) ae
variable {r:Addr}
theorem aZ.same (h:aZ H r)(S:ay H H'):aZ H' r:=by
 obtain⟨l,x,e,d⟩:=h;exact⟨l,x,S _ _ e,d⟩
noncomputable def uv (K:Frag)(H:Hp)(a:Addr)(ns:List Int):Prop:=(∃o,H a=some (.frz o (.lst (ns.map V.int))))\/∃(o:Obj)(its:Cm)(n:Nat),K.lookup a=some o/\o.cls=.type "list"/\o.dict=none/\o.data=.seq its n/\its.size<=sizeLine/\L2.aG (ns.map V.int) its.toList
variable {K:Frag}{ns:List Int}
theorem uv.sq (h:uv K H a ns):aY K H a (ns.map V.int):=by
 rcases h with⟨o,h⟩|h
 ·exact .inl (.inr ⟨o,h⟩)
 ·exact .inr h
theorem uv.kp (h:uv K H a ns)(S:Kp H H'):uv K H' a ns:=by
 rcases h with⟨o,h⟩|h
 ·exact .inl ⟨o,S _ _ h λ_ z=>by cases z⟩
 ·exact .inr h
theorem uv.but {H':Hp}(h:uv K H a ns)(R:aZ H r)(S:SameBut r H H'):uv K H' a ns:=by
 rcases h with⟨o,h⟩|h
 ·refine .inl ⟨o,S _ _ h λz=>?_⟩;obtain⟨l,x,e,_⟩:=R;rw[z,e] at h
  cases h
 ·exact .inr h
theorem j2 {ls:List Pos}{q:Str}{Pt:Addr}(h:j7 ls q Pt H)(R:aZ H r)(S:SameBut r H H'):j7 ls q Pt H':=by
 obtain⟨l,x,e,_⟩:=R;exact h.but e S
theorem iE.imp' {X:Cx}{st:rY}{t u:TS}(h:iE X st t)(i:∀D σ H,u D σ H->t D σ H):iE X st u:=λpins s σ H D I q=>h pins s σ H D I (i D σ H q)
theorem Fq {n m:Nat}(h:n≠m):[n,m].Nodup:=by simp[h]
section
variable {P:vQ}{w:World}{K:PySem.W.Frag}{mg:FA}{base:Heap}
variable {f c' C CF ND fW s:Addr}{fdW:ET}{oc fo:Obj}{pm ctv:Value}{cs:List Addr}{os:List Obj}{ys:wk}{vs:List V}{e:Expr}{φ0:Hp->VK->XK->Prop}{H7:Hp}{Q:VK}{E:XK}
theorem yS (Yr:fo=kla_obj "<lambda>" Ey (xx e) (qX e) (lD e) (ys.zip cs).reverse pm c' ctv)
 (hb:bindArgs (kla_fn "<lambda>" Ey (xx e) (qX e) (lD e) (ys.zip cs).reverse pm (.ref c') ctv) ⟨[],[]⟩=pure [])(hk:(lD e).kind=.function/\(lD e).isCoroutine=false/\(lD e).isGenerator=false/\(∀x∈(lD e).names,x.2≠.cell)/\(∀q∈(lD e).names,q.2=.free->q.1∈ys)/\(∀y∈ys,(lD e).names.lookup y=some .free)/\ys.Nodup)
 (nc:cs.Nodup)(lc:ys.length=cs.length)(ro:Paired rq vs os)(lv:vs.length=ys.length)(GX:d9 Ey oc)(mono:pP φ0)
 (F2:∀(A:Around)(outer:List Env)(s:Fp)(H:Hp)(Q:VK)(E:XK),om 3 (A.deeper (envX Ey (lD e) s.heap.objs.size f (.ref c') (ys.zip cs).reverse))->φ0 H Q E->∃t,PE (CL P w K mg base ys Ey (lD e) f (.ref c') (ys.zip cs).reverse A outer s H E) (qX e) t/\t (vs.map some) H Q)
 (hf:H7 f=some (cY f fo))(F1:H7 c'=some (cY c' oc))(z:∀c∈cs,H7 c=none)(h:∀Q0 E0,(∀H',ay H7 H'->E0 (.ref ND) none H')->φ0 H7 Q0 E0)
 (i:∀H',e9 (cs.zip os) H'->ay H7 (eW (cs.zip os) H')->Q (.str "degree") H'):rG P w K mg base 4 ND [.ref f] (dm (cs.zip os) H7) Q E:=by
 subst Yr;obtain⟨k1,k2,k3,k4,k5,k6,k7⟩:=hk;refine⟨f,_,rfl,rm (φ0:=φ0) (k:=3) hb k1 k2 k3 k4 k5 k6 k7 nc lc ro lv GX F2,xn mono,z9 hf F1 z (h _ _ λH8 s8=>⟨rfl,rfl,λH9 s9=>?_⟩)⟩;obtain⟨i1,i2⟩:=Eb z ((yB s8).trans s9);exact i H9 i1 i2
end
structure zx (P:vQ)(w:World)(K:Frag)(mg:FA)(base:Heap)(C CF Ik ND IP cc Pt:Addr)(GD:ET):Prop where
 cF:B5 K mg CF
 MF:Mk K CF IP
 FFI:Bu P w K mg base (aS P w) 2 IP GD BV (rn CF Ik)
 bFFI:L2.aA K GD BV []
 room:∃f fd,Bu P w K mg base (aS P w) 1 f fd vG (xS K)/\L2.aA K fd vG []/\mg "_law_room"=some (.ref f)/\keepIn K (.ref f)=true
 prime:∃f fd,Bu P w K mg base (aS P w) 2 f fd rE kx/\L2.aA K fd rE []/\mg "_law_prime"=some (.ref f)/\keepIn K (.ref f)=true
 take:∃f fd,Bu P w K mg base (aS P w) 1 f fd Ft zy/\L2.aA K fd Ft []/\mg "_law_take"=some (.ref f)/\keepIn K (.ref f)=true
 number:∃f fd,Bu P w K mg base (aS P w) 2 f fd yi zr/\L2.aA K fd yi []/\mg "_law_number"=some (.ref f)/\keepIn K (.ref f)=true
 prods:∃f fd,Bu P w K mg base (aS P w) 1 f fd uU BW/\L2.aA K fd uU []/\mg "_law_products"=some (.ref f)/\keepIn K (.ref f)=true
 gather:∃f fd,Bu P w K mg base (aS P w) 4 f fd rR lF/\L2.aA K fd rR []/\mg "_law_gather"=some (.ref f)/\keepIn K (.ref f)=true
 terms:∃f fd,Bu P w K mg base (aS P w) 3 f fd DN yO/\L2.aA K fd DN []/\mg "_law_terms"=some (.ref f)/\keepIn K (.ref f)=true
 sright:∃f fd,Bu P w K mg base (aS P w) 8 f fd vK (Di C CF)/\L2.aA K fd vK []/\mg "_law_sum_right"=some (.ref f)/\keepIn K (.ref f)=true
 cright:∃f fd,Bu P w K mg base (aS P w) 4 f fd Er rp/\L2.aA K fd Er []/\mg "_law_cut_right"=some (.ref f)/\keepIn K (.ref f)=true
 kind:∃f fd,Bu P w K mg base (aS P w) 5 f fd ["_law_call"] (rG P w K mg base 4 ND)/\L2.aA K fd ["_law_call"] []/\mg "_law_kind"=some (.ref f)/\keepIn K (.ref f)=true
 cut:∃f fd,Bu P w K mg base (aS P w) 3 f fd CT (p5 ND)/\L2.aA K fd CT []/\mg "cut"=some (.ref f)/\keepIn K (.ref f)=true
 hd:CodeHd base cc Pt
 bm:∃bm ob,mg "__builtins__"=some (.ref bm)/\bm≠builtinsNs/\base.get? bm=some ob/\ob.cls=.type "module"/\ob.dict=some builtinsNs/\ob.data=.plain
 hS:oj K
 m_max:mg "max"=none
 m_min:mg "min"=none
 m_len:mg "len"=none
 m_range:mg "range"=none
 m_int:mg "int"=none
 m_repr:mg "repr"=none
variable {wd:Addr}{FF:List (List Key×V)}{d:List Tm}
theorem WD.kp {o:Obj}(h:WD H wd o FF d)(k:Kp H H'):WD H' wd o FF d:=⟨k _ _ h.e (λ_ z=>by cases z),h.r.keep k.tup,h.nd,h.len,h.sm,h.one⟩
inductive EI (H:Hp):V->String->Prop where
 |non:EI H .non "NoneType"
 |bl (b:Bool):EI H (.bl b) "bool"
 |int {i:Int}(h:¬(0<=i/\i<=300)):EI H (.int i) "int"
 |str (x:Str):EI H (.str x) "str"
 |tup {a:Addr}{xs:List V}(e:H a=some (.tup xs)):EI H (.ref a) "tuple"
 |lst {a:Addr}{xs:List V}(e:H a=some (.lst xs)):EI H (.ref a) "list"
variable {x:V}{T:String}
theorem EI.kp (h:EI H x T)(k:Kp H H'):EI H' x T:=by
 cases h with
 |non=>exact .non
 |bl b=>exact .bl b
 |int h=>exact .int h
 |str x=>exact .str x
 |tup e=>exact .tup (k _ _ e λ_ z=>by cases z)
 |lst e=>exact .lst (k _ _ e λ_ z=>by cases z)
theorem EI.th (h:EI H x T):Th H x T:=by
 cases h with
 |non=>exact .non
 |bl b=>exact .bl b
 |int h=>exact .int _
 |str x=>exact .str x
 |tup e=>exact .tup e
 |lst e=>exact .lst e
theorem EI.no (h:EI H x T):∀i:Int,x=.int i->¬(0<=i/\i<=300):=by
 intro i e
 cases h with
 |int h=>cases e;exact h
 |_=>cases e
theorem xT {ND:Addr}{vs:List V}:pP (λH Q E=>p5 ND vs H Q E):=by
 intro H Q Q' E E' hQ hE h;obtain⟨wd,x,T,o,FF,e,hw,nd,kl,th,h⟩:=h;refine⟨wd,x,T,o,FF,e,hw,nd,kl,th,?_⟩
 rcases h with⟨i,e,h0,h3,q⟩|⟨no,q⟩
 ·exact .inl ⟨i,e,h0,h3,λH' D s hD e'=>hQ _ _ (q H' D s hD e')⟩
 ·exact .inr ⟨no,hE _ _ _ q⟩
noncomputable def Nx (K:Frag)(a:Addr)(ns:List Int)(Pt:Addr)(D:Ends):Prop:=∀σ' H',(∃o1 o2 o3 o4 o5 o6 o7 o8 o9 GK GL GN GO,σ'=[some (.ref a),o1,o2,o3,o4,o5,o6,o7,o8,o9,GK,GL,GN,GO])->uv K H' a ns->qH Pt H'->D.nx σ' H'
noncomputable def Cg (K:Frag)(Pt:Addr):TS:=λD σ H=>∃(sa wd:Addr)(ns:List Int)(o:Obj)(FF:List (List Key×V))(d:List Tm)(o1 o2 o3 o4 o5 o6 o8 GK GL GN GO:Option V),
 σ=[some (.ref sa),o1,o2,o3,o4,o5,o6,some (.ref wd),o8,some (.str (PyData.dict (sW d)).shown),GK,GL,GN,GO]/\WD H wd o FF d/\uv K H sa ns/\qH Pt H/\Nx K sa ns Pt D
section
variable {P:vQ}{w:World}{K:PySem.W.Frag}{mg:FA}{base:Heap}
variable {fa:Addr}{A:Around}{outer:List Env}{s0:Fp}{H0:Hp}{E0:XK}{C CF Ik ND IP cc Pt:Addr}{GD:ET}
theorem zk:(XL P w K mg base fa (.ref cc) A outer s0 H0 E0).env.qual++"<lambda>"=Ey:=rfl
set_option maxHeartbeats 1000000 in
theorem yh (Hh:om 8 (XL P w K mg base fa (.ref cc) A outer s0 H0 E0).A)(W:zx P w K mg base C CF Ik ND IP cc Pt GD):
 iE (XL P w K mg base fa (.ref cc) A outer s0 H0 E0) (uo.drop 11) (Cg K Pt):=by
 obtain⟨fKd,Ys,Yt,Yu,Yv,Yw⟩:=W.kind;obtain⟨fCu,Yx,Pw,Px,Py,Pz⟩:=W.cut;have LQ:=Hh.mono (show 5<=8 by decide);have FY:=Hh.mono (show 1<=8 by decide);have MF:lN (XL P w K mg base fa (.ref cc) A outer s0 H0 E0) cc Pt:=⟨rfl,W.hd,W.bm⟩
 refine iE.imp' (aj (c9 PassesOwn.never rfl (bY (@cD _ _ _ _ (@aq _ _ _ _ _ n9 (@aq _ _ _ _ _ fF (@aq _ _ _ _ _ (@aD _ _ _ _ _ _ _ _ lr ak ak) (@aq _ _ _ _ _ ak (@aq _ _ _ _ _ c7 (@aq _ _ _ _ _ (@bx _ _ _ _ _ (@aq _ _ _ _ _ ak ah rfl)) (@aq _ _ _ _ _ (@cD _ _ _ _ ah) ah rfl) rfl) rfl) rfl) rfl) rfl) rfl))) (aE (i:=13) dQ.nd rfl (Or.inr rfl))
  (ar (bg (@aN _ _ _ _ _ _ _ _ hV (yj (ys:=["_law_odd","_law_worths"]) (js:=[13,7]) Yt LQ (by rfl) Yv Yw Yu (λH s e s' z=>by obtain⟨a,cls,a0,B,d,H',_,_,_,_,hE⟩:=z;exact hE.elim) rfl (λy hy=>by
   simp at hy
   rcases hy with rfl|rfl <;> rfl) (λy hy=>rfl) (@aq _ _ _ _ _ (uT (osc:=ao gD) MF rfl (by decide +kernel) rfl) ah rfl)) c7 (aM _)) (ar (aB fF)) aJ)))
  (ar (bg (@aN _ _ _ _ _ _ _ _ hV (aF (eY FY W.hS) (by rfl) W.m_repr (by rfl) (@aq _ _ _ _ _ (pv 7) ah rfl)) (pv 9) (aM _)) (ar (aB fF)) aJ))) λEn σ H h=>?_
 obtain⟨sa,wd,ns,o,FF,d,o1,o2,o3,o4,o5,o6,o8,GK,GL,GN,GO,rfl,PB,sc,tb,fin⟩:=h;refine⟨_,_,rfl,rfl,A5,λt5 Vc=>⟨Nat.zero_le _,λl6 Vd=>⟨aaL,λL hL=>?_⟩⟩⟩;have s5:=au (o:=.tup [.int 1]) Vc;have s6:=au (o:=.lst []) Vd;have s7:=au (o:=.lst [.non,.bl true,.int (0-1),.int 301,.str "1",.ref t5,.ref l6]) hL;have e5:upd (upd (upd H t5 (.tup [.int 1])) l6 (.lst [])) L (.lst [.non,.bl true,.int (0-1),.int 301,.str "1",.ref t5,.ref l6]) t5=some (.tup [.int 1]):=s7 _ _ (s6 _ _ ae);have e6:upd (upd (upd H t5 (.tup [.int 1])) l6 (.lst [])) L (.lst [.non,.bl true,.int (0-1),.int 301,.str "1",.ref t5,.ref l6]) l6=some (.lst []):=s7 _ _ ae;have eL:upd (upd (upd H t5 (.tup [.int 1])) l6 (.lst [])) L (.lst [.non,.bl true,.int (0-1),.int 301,.str "1",.ref t5,.ref l6]) L=some (.lst [.non,.bl true,.int (0-1),.int 301,.str "1",.ref t5,.ref l6]):=ae;have sA:=s5.trans (s6.trans s7);generalize upd (upd (upd H t5 (.tup [.int 1])) l6 (.lst [])) L (.lst [.non,.bl true,.int (0-1),.int 301,.str "1",.ref t5,.ref l6])=H6 at e5 e6 eL sA |-;have PB:=PB.same sA;have sc:=sc.kp (Kp.of sA);have tb:=tb.same sA;clear s5 s6 s7 Vc Vd hL
 have all:∀x∈([.non,.bl true,.int (0-1),.int 301,.str "1",.ref t5,.ref l6]:List V),∃T,EI H6 x T:=λx hx=>by
  simp at hx
  rcases hx with rfl|rfl|rfl|rfl|rfl|rfl|rfl
  ·exact⟨_,.non⟩
  ·exact⟨_,.bl _⟩
  ·exact⟨_,.int (by decide)⟩
  ·exact⟨_,.int (by decide)⟩
  ·exact⟨_,.str _⟩
  ·exact⟨_,.tup e5⟩
  ·exact⟨_,.lst e6⟩
 refine⟨L,rfl,⟨_,aY.of eL⟩,?_⟩;refine jX (K:=K) (a:=L) (xs:=[.non,.bl true,.int (0-1),.int 301,.str "1",.ref t5,.ref l6]) (λj σ H'=>Kp H6 H'/\qH Pt H'/\∃GO,σ=[some (.ref sa),o1,o2,o3,o4,o5,o6,some (.ref wd),o8,some (.str (PyData.dict (sW d)).shown),GK,GL,GN,GO]) ⟨Kp.of (ay.refl _),tb,_,rfl⟩ (λj σ H' _ h=>aY.of (h.1.lst eL)) ?_ ?_
 ·rintro j x σ H7 hx ⟨k7,PD,GO,rfl⟩;obtain⟨T,nx⟩:=all x (List.mem_of_getElem? hx);have nx:=nx.kp k7;simp only[bz,M1,C7,zD,DS,wg,qP,yI,eC];refine A1 (pos:=AU wM) List.mem_cons_self Bp zk PD λH8 f c' oc ctv hf F1 GX S8 Yy=>?_;obtain⟨ps1,Yz,_⟩:=id PD;have k8:Kp H7 H8:=Kp.bt Yz S8;have Ve:=nx.kp k8;have MX:=(PB.kp k7).kp k8;refine⟨[x,.ref wd],rfl,λos ro free=>?_⟩
  refine yS (e:=wM) (ys:=["_law_odd","_law_worths"]) (vs:=[x,.ref wd]) (φ0:=λH Q E=>p5 ND [.ref wd,x] H Q E) (pm:=(mg "__name__").getD .none) (ctv:=ctv) rfl rfl ⟨rfl,rfl,rfl,by decide +kernel,by decide +kernel,by decide +kernel,by decide +kernel⟩ (Fq (n:=s0.heap.objs.size+1) (m:=s0.heap.objs.size+1+1) (by omega)) rfl ro rfl GX xT (λA outer s' H Q E hr q=>?_) hf F1 free
   (λQ0 E0 hE=>⟨wd,x,T,o,FF,rfl,MX.e,oE MX.r MX.nd,by rw[MX.r.length];have:=MX.len;omega,Ve.th,.inr ⟨Ve.no,hE _ (ay.refl _)⟩⟩) (λH9 O3 S9=>⟨O3,rfl,_,rfl,b8 ?_⟩)
  ·exact⟨_,ax (E:=E) Pw hr (by rfl) Py Pz Px .nil (uQ qU) (@aq _ _ _ _ _ (pv 1) (@aq _ _ _ _ _ (pv 0) ah rfl) rfl),_,rfl,_,rfl,q⟩
  ·exact⟨k7.trans (k8.trans (Kp.of S9)),Yy.same S9,_,rfl⟩
 ·rintro σ H7 ⟨k7,PD,GO,rfl⟩;have PF:=PB.kp k7;obtain⟨LW,LX,LY⟩:=oH PF.sm;refine⟨_,rfl,wd,FF,_,rfl,.inr ⟨o,PF.e⟩,jS PF.r,LW,LX,Nat.le_trans LY (by have:=PF.len;omega),_,rfl,rfl,_,rfl,?_⟩;rw[decide_eq_true rfl];exact b8 (fin _ _ ⟨_,_,_,_,_,_,_,_,_,_,_,_,_,rfl⟩ (sc.kp k7) PD)
end
theorem aZ.not {b:Addr}{o:HO}(R:aZ H r)(s:SameBut r H H')(e:H b=some o)(n:∀xs,o≠.lst xs):H' b=some o:=s _ _ e λz=>by
 obtain⟨l,x,e',_⟩:=R;rw[z,e'] at e;exact n _ (Option.some.inj e).symm
theorem WD.but {H':Hp}{o:Obj}(h:WD H wd o FF d)(R:aZ H r)(s:SameBut r H H'):WD H' wd o FF d:=⟨R.not s h.e (λ_ z=>by cases z),h.r.keep (R.abu s),h.nd,h.len,h.sm,h.one⟩
structure Fc (K:Frag)(CF Pt:Addr)(p:Int)(sa fl r wd:Addr)(ns:List Int)(o:Obj)(FF:List (List Key×V))(d:List Tm)(H:Hp):Prop where
 w:WD H wd o FF d
 f:∃F3,H fl=some (.ins CF F3 (gZ p))
 r:aZ H r
 s:uv K H sa ns
 t:qH Pt H
section
variable {K:Frag}{CF Pt:Addr}{p:Int}{sa fl r wd:Addr}{ns:List Int}{o:Obj}{FF:List (List Key×V)}{d:List Tm}{H H':Hp}
theorem Fc.same (h:Fc K CF Pt p sa fl r wd ns o FF d H)(s:ay H H'):Fc K CF Pt p sa fl r wd ns o FF d H':=⟨h.w.same s,let⟨F3,e⟩:=h.f;⟨F3,s _ _ e⟩,h.r.same s,h.s.kp (Kp.of s),h.t.same s⟩
theorem Fc.but (h:Fc K CF Pt p sa fl r wd ns o FF d H)(s:SameBut r H H')(R:aZ H' r):Fc K CF Pt p sa fl r wd ns o FF d H':=⟨h.w.but h.r s,let⟨F3,e⟩:=h.f;⟨F3,h.r.not s e λ_ z=>by cases z⟩,R,h.s.but h.r s,j2 h.t h.r s⟩
end
noncomputable def Bf (K:Frag)(CF Pt:Addr):TS:=λD σ H=>∃(sa wd fl r:Addr)(ns:List Int)(o:Obj)(FF:List (List Key×V))(d:List Tm)(p many Il:Int)(o1 o8 GK GL GN GO:Option V),
 σ=[some (.ref sa),o1,some (.ref r),some (.int p),some (.ref fl),some (.int many),some (.int Il),some (.ref wd),o8,some (.str (PyData.dict (sW d)).shown),GK,GL,GN,GO]/\FP p/\pq p d/\1<=many/\many<=5/\0<=Il/\Il<=5/\Fc K CF Pt p sa fl r wd ns o FF d H/\Nx K sa ns Pt D
section
variable {P:vQ}{w:World}{K:PySem.W.Frag}{mg:FA}{base:Heap}
variable {fa:Addr}{A:Around}{outer:List Env}{s0:Fp}{H0:Hp}{E0:XK}{C CF Ik ND IP cc Pt:Addr}{GD:ET}
set_option maxHeartbeats 1000000 in
theorem wa (Hh:om 8 (XL P w K mg base fa (.ref cc) A outer s0 H0 E0).A)(W:zx P w K mg base C CF Ik ND IP cc Pt GD):
 iE (XL P w K mg base fa (.ref cc) A outer s0 H0 E0) (uo.drop 9) (Bf K CF Pt):=by
 obtain⟨YA,Rr,PH,PJ,PK,PL⟩:=W.take;obtain⟨fGa,YB,YC,YD,YE,YF⟩:=W.gather;obtain⟨fTe,YG,Le,Lf,Lg,YH⟩:=W.terms;obtain⟨fSr,YI,YJ,YK,YL,YM⟩:=W.sright;obtain⟨fCr,YN,YO,YQ,YR,YS⟩:=W.cright;have FY:=Hh.mono (show 1<=8 by decide);have HE:=Hh.mono (show 3<=8 by decide);have J0:=Hh.mono (show 4<=8 by decide)
 refine iE.imp' (aj (c9 PassesOwn.never rfl (eM (by rfl) W.m_range (@aq _ _ _ _ _ ak ah rfl)) (aE (i:=10) dQ.nd rfl (Or.inl rfl))
  (aj (@aK _ _ 11 _ _ _ _ dQ.nd rfl (Or.inl rfl) (ax YC J0 (by rfl) YE YF YD .nil ag (@aq _ _ _ _ _ (pv 3) (@aq _ _ _ _ _ (ax Le HE (by rfl) Lg YH Lf .nil ag (@aq _ _ _ _ _ (pv 2) (@aq _ _ _ _ _ (pv 3) (@aq _ _ _ _ _ (@aD _ _ _ _ _ _ _ _ dt (pv 5) (eN ng (by rfl) W.m_int (by rfl) (@aq _ _ _ _ _ (@cP _ _ _ _ _ _ _ _ dC (pv 10) ak (aM _)) ah rfl))) (@aq _ _ _ _ _ ak ah rfl) rfl) rfl) rfl)) ah rfl) rfl)) rfl (Or.inl rfl))
  (ar (bg (cp (cq (ax YJ Hh (by rfl) YL YM YK .nil ag (@aq _ _ _ _ _ (pv 4) (@aq _ _ _ _ _ (pv 3) (@aq _ _ _ _ _ (pv 7) (@aq _ _ _ _ _ (pv 11) ah rfl) rfl) rfl) rfl)))) (ar (aB fF)) aJ))))
  (aj (c9 PassesOwn.never rfl (bY (@cD _ _ _ _ (@aq _ _ _ _ _ ak (@aq _ _ _ _ _ (ax PH FY (by rfl) PK PL PJ .nil ag (@aq _ _ _ _ _ (pv 2) (@aq _ _ _ _ _ ak ah rfl) rfl)) (@aq _ _ _ _ _ (pv 6) (@aq _ _ _ _ _ ak ah rfl) rfl) rfl) rfl))) (aE (i:=12) dQ.nd rfl (Or.inl rfl))
  (ar (bg (cp (cq (ax YO J0 (by rfl) YR YS YQ .nil ag (@aq _ _ _ _ _ (pv 7) (@aq _ _ _ _ _ (pv 12) ah rfl) rfl)))) (ar (aB fF)) aJ)))
  (yh Hh W))) λEn σ H h=>?_
 obtain⟨sa,wd,fl,r,ns,o,FF,d,p,many,Il,o1,o8,GK,GL,GN,GO,rfl,hp,gw,m1,m5,d0,d5,fc,fin⟩:=h;refine⟨_,rfl,by decide,by decide,?_⟩;refine lS (lo:=0) (λi σ H'=>(∃GK GL,σ=[some (.ref sa),o1,some (.ref r),some (.int p),some (.ref fl),some (.int many),some (.int Il),some (.ref wd),o8,some (.str (PyData.dict (sW d)).shown),GK,GL,GN,GO])/\Fc K CF Pt p sa fl r wd ns o FF d H') ⟨⟨_,_,rfl⟩,fc⟩ ?_ ?_
 ·rintro i σ G0 hi ⟨⟨GK,GL,rfl⟩,fc⟩;refine⟨_,rfl,_,rfl,_,rfl,_,rfl,_,rfl,rfl,.inr ⟨_,rfl,_,_,rfl,rfl,?_⟩⟩
  have b2:∀b:Bool,0<=(if b=true then(1:Int) else 0)/\(if b=true then(1:Int) else 0)<=1:=by intro b;cases b <;> decide
  have b2:=b2 (decide (V.int (0+(i:Int))=V.int 2));generalize (if decide (V.int (0+(i:Int))=V.int 2)=true then(1:Int) else 0)=ex at b2 |-;refine⟨r,p,many+ex,5,rfl,fc.r,hp,by omega,by omega,by decide,by decide,λD ys ts G1 hD ht tl tg R1 S1=>?_⟩;have YT:=fc.but S1 R1
  have tl:ts.length<=5:=by omega
  have Rn:BG p ts:=BG.of (m:=45) hp (by omega) (λt h=>(tg t h).1) (by omega) (by decide);refine⟨D,p,ys,ts,rfl,hp,hD,ht,Rn,λG2 D2 zs S2 HU hz=>?_⟩;have LZ:=YT.same S2;have Rt:=By hp (by omega:many+ex<=6) tl tg;obtain⟨F3,hf⟩:=LZ.f;refine⟨_,rfl,_,rfl,_,rfl,_,rfl,fl,F3,wd,D2,p,zs,_,d,rfl,hf,hp,LZ.w.hw,gw,HU,hz,Rt,λG3 S3=>?_⟩;exact⟨_,rfl,b8 ⟨⟨_,_,rfl⟩,LZ.same S3⟩⟩
 ·rintro σ G1 ⟨⟨GK,GL,rfl⟩,fc⟩;obtain⟨l0,x0,Jj,a0,a1⟩:=fc.r;refine⟨_,rfl,r,l0,x0,6,rfl,Jj,a0,a1,by decide,by decide,λz l1 x1 z0 z1 b0 b1=>?_⟩;have LZ:=fc.but (H':=upd G1 r (.lst [.int l1,.int x1])) SameBut.upd ⟨l1,x1,ae,b0,b1⟩;generalize upd G1 r (.lst [.int l1,.int x1])=G2 at LZ |-;refine⟨_,rfl,Fd,λL hL=>?_⟩;have s3:=au (o:=.lst [.int 0,.int z,.int Il,.int 300]) hL;have Ru:=LZ.same s3;have eL:upd G2 L (.lst [.int 0,.int z,.int Il,.int 300]) L=some (.lst [.int 0,.int z,.int Il,.int 300]):=ae;generalize upd G2 L (.lst [.int 0,.int z,.int Il,.int 300])=G3 at Ru eL |-;refine⟨L,rfl,⟨_,aY.of eL⟩,?_⟩;refine jX (K:=K) (a:=L) (xs:=[.int 0,.int z,.int Il,.int 300]) (λj σ H'=>ay G3 H'/\∃GN,σ=[some (.ref sa),o1,some (.ref r),some (.int p),some (.ref fl),some (.int many),some (.int Il),some (.ref wd),o8,some (.str (PyData.dict (sW d)).shown),GK,GL,GN,GO]) ⟨ay.refl _,_,rfl⟩ (λj σ H' _ h=>aY.of (h.1 _ _ eL)) ?_ ?_
  ·rintro j x σ G4 hx ⟨s4,GN,rfl⟩
   obtain⟨i,rfl,i0,i3⟩:∃i:Int,x=.int i/\0<=i/\i<=300:=by
    have hx:=List.mem_of_getElem? hx;simp at hx
    rcases hx with rfl|rfl|rfl|rfl
    ·exact⟨0,rfl,by decide,by decide⟩
    ·exact⟨z,rfl,by omega,by omega⟩
    ·exact⟨Il,rfl,by omega,by omega⟩
    ·exact⟨300,rfl,by decide,by decide⟩
   refine⟨_,rfl,_,rfl,wd,o,FF,d,i,rfl,i0,i3,(Ru.same s4).w,λG5 s5=>?_⟩;exact⟨_,rfl,b8 ⟨s4.trans s5,_,rfl⟩⟩
  ·rintro σ G4 ⟨s4,GN,rfl⟩;have Rv:=Ru.same s4;exact⟨sa,wd,ns,o,FF,d,_,_,_,_,_,_,_,_,_,_,_,rfl,Rv.w,Rv.s,Rv.t,fin⟩
end
variable {k:List Int}
theorem Cf {n:Int×Int}(h:DR H FF d)(GJ:k∉d.map (·.1))(ha:H a=some (bE n.1 n.2)):DR H (cg FF (dR k) (.ref a)) (d++[(k,n)]):=by
 rw[iB]
 ·exact Paired.snoc h ⟨rfl,a,rfl,ha⟩
 ·intro m;obtain⟨kv,hm,ek⟩:=List.mem_map.mp m;obtain⟨j,hj⟩:=List.mem_iff_getElem?.mp hm;obtain⟨e,he,e1,_⟩:=aL h hj;have e1:kv.1=dR e.1:=e1;have:e.1=k:=fh (e1.symm.trans ek);exact GJ (by rw[<-this];exact List.mem_map_of_mem (List.mem_of_getElem? he))
noncomputable def gW (k:List Int)(n:Int×Int)(d:List Tm):List Tm:=d.map λe=>if e.1=k then(e.1,n) else e
theorem Cu {n:Int×Int}(h:DR H FF d)(hy:k∈d.map (·.1))(ha:H a=some (bE n.1 n.2)):DR H (cg FF (dR k) (.ref a)) (gW k n d):=by
 have any:(FF.any λkv=>decide (kv.1=dR k))=true:=by
  rw[wq k h];obtain⟨e,he,z⟩:=List.mem_map.mp hy;exact List.any_eq_true.mpr ⟨e,he,by simpa using z⟩
 unfold cg;rw[if_pos any];clear any hy;unfold gW
 induction h with
 |nil=>exact .nil
 |@cons kv e ks es h0 ht ih =>
  rw[List.map_cons,List.map_cons];refine .cons ?_ ih
  by_cases z:e.1=k
  ·rw[if_pos z,if_pos (by rw[h0.1,z])];exact⟨h0.1,a,rfl,ha⟩
  ·rw[if_neg z,if_neg (λw=>z (fh (h0.1.symm.trans w)))];exact h0
theorem uD (k:List Int)(n:Int×Int)(d:List Tm):(gW k n d).map (·.1)=d.map (·.1):=by
 unfold gW;rw[List.map_map];refine List.map_congr_left λe _=>?_;show(if e.1=k then(e.1,n) else e).1=e.1
 split <;> rfl
theorem pk {n:Int×Int}{e:Tm}(h:e∈gW k n d):(e.2=n/\e.1∈d.map (·.1))\/e∈d:=by
 obtain⟨e0,m,rfl⟩:=List.mem_map.mp h
 by_cases z:e0.1=k
 ·rw[if_pos z];exact .inl ⟨rfl,List.mem_map.mpr ⟨e0,m,rfl⟩⟩
 ·rw[if_neg z];exact .inr m
theorem v7 {p:Int}{n:Nat}(hp:FP p)(hn:1<=n):Gn p n (1,1):=⟨⟨by decide,by simp,λz=>⟨rfl,by decide,by have:=hp.two z;omega⟩⟩,(by show(1:Int).natAbs<2^1;decide:B 1 1).mono hn,(by show(1:Int).natAbs<2^1;decide:B 1 1).mono hn⟩
structure Fb (K:Frag)(CF Pt:Addr)(p:Int)(sa fl r:Addr)(ns:List Int)(H:Hp):Prop where
 f:∃F3,H fl=some (.ins CF F3 (gZ p))
 r:aZ H r
 s:uv K H sa ns
 t:qH Pt H
section
variable {K:Frag}{CF Pt:Addr}{p:Int}{sa fl r:Addr}{ns:List Int}{H H':Hp}
theorem Fb.same (h:Fb K CF Pt p sa fl r ns H)(s:ay H H'):Fb K CF Pt p sa fl r ns H':=⟨let⟨F3,e⟩:=h.f;⟨F3,s _ _ e⟩,h.r.same s,h.s.kp (Kp.of s),h.t.same s⟩
theorem Fb.but (h:Fb K CF Pt p sa fl r ns H)(s:SameBut r H H')(R:aZ H' r):Fb K CF Pt p sa fl r ns H':=⟨let⟨F3,e⟩:=h.f;⟨F3,h.r.not s e λ_ z=>by cases z⟩,R,h.s.but h.r s,j2 h.t h.r s⟩
theorem Fb.put {o:HO}(h:Fb K CF Pt p sa fl r ns H)(e:H wd=some (.dT FF)):Fb K CF Pt p sa fl r ns (upd H wd o):=by
 have ne:∀{b:Addr}{u:HO},H b=some u->u≠.dT FF->b≠wd:=λe1 n z=>by
  rw[z,e] at e1;exact n (Option.some.inj e1).symm
 refine⟨?_,?_,?_,?_⟩
 ·obtain⟨F3,e1⟩:=h.f;exact⟨F3,by rw[ai (ne e1 λz=>by cases z)];exact e1⟩
 ·obtain⟨l,x,e1,a,b⟩:=h.r;exact⟨l,x,by rw[ai (ne e1 λz=>by cases z)];exact e1,a,b⟩
 ·rcases h.s with⟨o',e1⟩|e1
  ·exact .inl ⟨o',by rw[ai (ne e1 λz=>by cases z)];exact e1⟩
  ·exact .inr e1
 ·obtain⟨ps,e1,e2,e3⟩:=h.t;refine⟨ps,by rw[ai (ne e1 λz=>by cases z)];exact e1,e2,λpos hp=>?_⟩
  rcases e3 pos hp with z|⟨c',oc,z1,z2,z3⟩
  ·exact .inl z
  ·refine .inr ⟨c',oc,z1,?_,z3⟩;rw[ai (ne z2 λz=>by unfold cY at z;cases z)];exact z2
end
noncomputable def Cd (K:Frag)(CF Pt:Addr):TS:=λD σ H=>∃(sa fl r:Addr)(ns:List Int)(p:Int)(o1 o5 o6 o7 o8 o9 GK GL GN GO:Option V),
 σ=[some (.ref sa),o1,some (.ref r),some (.int p),some (.ref fl),o5,o6,o7,o8,o9,GK,GL,GN,GO]/\FP p/\Fb K CF Pt p sa fl r ns H/\Nx K sa ns Pt D
section
variable {P:vQ}{w:World}{K:PySem.W.Frag}{mg:FA}{base:Heap}
variable {fa:Addr}{A:Around}{outer:List Env}{s0:Fp}{H0:Hp}{E0:XK}{C CF Ik ND IP cc Pt:Addr}{GD:ET}
set_option maxHeartbeats 1000000 in
theorem v5 (Hh:om 8 (XL P w K mg base fa (.ref cc) A outer s0 H0 E0).A)(W:zx P w K mg base C CF Ik ND IP cc Pt GD):
 iE (XL P w K mg base fa (.ref cc) A outer s0 H0 E0) (uo.drop 3) (Cd K CF Pt):=by
 obtain⟨YA,Rr,PH,PJ,PK,PL⟩:=W.take;obtain⟨fPs,YU,YV,YW,YX,YY⟩:=W.prods;obtain⟨fNu,YZ,Y0,Y1,Y2,Y3⟩:=W.number;have FY:=Hh.mono (show 1<=8 by decide);have G9:=Hh.mono (show 2<=8 by decide);have hu:=(Hh.units:_+64<cLine)
 replace hu:=Nat.lt_of_le_of_lt (Nat.add_le_add_left (by decide:1<=64) _) hu
 refine iE.imp' (aj (@aK _ _ 5 _ _ _ _ dQ.nd rfl (Or.inl rfl) (@aD _ _ _ _ _ _ _ _ dt ak (ax PH FY (by rfl) PK PL PJ .nil ag (@aq _ _ _ _ _ (pv 2) (@aq _ _ _ _ _ ak ah rfl) rfl))) rfl (Or.inl rfl))
  (aj (@aK _ _ 6 _ _ _ _ dQ.nd rfl (Or.inl rfl) (ax PH FY (by rfl) PK PL PJ .nil ag (@aq _ _ _ _ _ (pv 2) (@aq _ _ _ _ _ ak ah rfl) rfl)) rfl (Or.inl rfl))
  (aj (@aK _ _ 7 _ _ _ _ dQ.nd rfl (Or.inr rfl) jT rfl (Or.inl rfl))
  (aj (c9 PassesOwn.never rfl (bY (ax YV FY (by rfl) YX YY YW .nil ag (@aq _ _ _ _ _ (pv 5) (@aq _ _ _ _ _ (pv 6) ah rfl) rfl))) (aE (i:=8) dQ.nd rfl (Or.inl rfl))
  (ar (ib hu (pv 7) (pv 8) (ax Y0 G9 (by rfl) Y2 Y3 Y1 .nil ag (@aq _ _ _ _ _ (pv 2) (@aq _ _ _ _ _ (pv 3) ah rfl) rfl)) (by rfl))))
  (aj (ib hu (pv 7) (@bx _ _ _ _ _ ah) (@bx _ _ _ _ _ (@aq _ _ _ _ _ ak (@aq _ _ _ _ _ ak ah rfl) rfl)) (by rfl))
  (aj (@aK _ _ 9 _ _ _ _ dQ.nd rfl (Or.inl rfl) (aF (oP FY W.hS) (by rfl) W.m_repr (by rfl) (@aq _ _ _ _ _ (pv 7) ah rfl)) rfl (Or.inl rfl))
  (wa Hh W))))))) λEn σ H h=>?_
 obtain⟨sa,fl,r,ns,p,o1,o5,o6,o7,o8,o9,GK,GL,GN,GO,rfl,hp,fb,fin⟩:=h;obtain⟨l0,x0,Jj,a0,a1⟩:=fb.r;refine⟨_,rfl,r,l0,x0,5,rfl,Jj,a0,a1,by decide,by decide,λz l1 x1 z0 z1 b0 b1=>?_⟩;have PM:=fb.but (H':=upd H r (.lst [.int l1,.int x1])) SameBut.upd ⟨l1,x1,ae,b0,b1⟩;generalize upd H r (.lst [.int l1,.int x1])=G1 at PM |-;clear fb Jj;refine⟨_,_,rfl,rfl,?_⟩;obtain⟨l0,x0,Jj,a0,a1⟩:=PM.r;refine⟨_,rfl,r,l0,x0,6,rfl,Jj,a0,a1,by decide,by decide,λy l2 x2 y0 y1 b0 b1=>?_⟩;have Rw:=PM.but (H':=upd G1 r (.lst [.int l2,.int x2])) SameBut.upd ⟨l2,x2,ae,b0,b1⟩;generalize upd G1 r (.lst [.int l2,.int x2])=G2 at Rw |-;clear PM Jj;intro wd Vf;have Vg:=Rw.same (au (o:=.dT []) Vf);have e3:upd G2 wd (.dT []) wd=some (.dT []):=ae;generalize upd G2 wd (.dT [])=G3 at Vg e3 |-;clear Rw Vf;obtain⟨m,em⟩:∃m:Nat,(1+z:Int)=m:=⟨(1+z).toNat,by omega⟩;obtain⟨n,en⟩:∃n:Nat,(y:Int)=n:=⟨y.toNat,by omega⟩
 have m5:m<=5:=by omega
 have n5:n<=5:=by omega
 have Y4:(λi j:Int=>V.int (i+j)) 1 z=V.int m:=by
  show V.int (1+z)=_;rw[em]
 rw[Y4];subst en;refine⟨_,rfl,_,rfl,m,n,rfl,by omega,by omega,λG4 L ys S4 hLn hL hy=>?_⟩;have Y5:=Vg.same S4;have e4:=S4 _ _ e3;obtain⟨k1,k2,k3,k4⟩:=qL n m;have kl:(hJ n m).length<=32:=Nat.le_trans k4 (Nat.pow_le_pow_right (by decide) m5);have yl:=hy.length;refine⟨L,rfl,⟨ys,aY.of hL⟩,?_⟩
 refine jX (K:=K) (a:=L) (xs:=ys) (λi σ H'=>(∃o8,σ=[some (.ref sa),o1,some (.ref r),some (.int p),some (.ref fl),some (.int m),some (.int n),some (.ref wd),o8,o9,GK,GL,GN,GO])/\Fb K CF Pt p sa fl r ns H'/\H' L=some (.lst ys)/\gG H' ys (hJ n m)/\∃FF d,H' wd=some (.dT FF)/\DR H' FF d/\d.map (·.1)=(hJ n m).take i/\∀e∈d,Gn p 45 e.2)
  ⟨⟨_,rfl⟩,Y5,hL,hy,[],[],e4,.nil,rfl,λe he=>(nomatch he)⟩ (λi σ H' _ h=>aY.of h.2.2.1) ?_ ?_
 ·rintro i x σ G5 hx ⟨⟨o8,rfl⟩,MY,Rx,MZ,FF,d,hd,dr,dk,dg⟩;obtain⟨k,ek,pr,rfl,Gb⟩:=aL MZ hx;refine⟨_,rfl,_,rfl,r,p,rfl,hp,MY.r,λan tt bb G6 hn B1 B2 Y6 R6 S6=>?_⟩;have R5:=MY.r;have Ry:=R5.abu S6;have Y7:=MY.but S6 R6
  have Kd:=R5.not S6 hd λ_ z=>by cases z
  have Y8:L≠r:=λz=>by
   obtain⟨l,x,e,_⟩:=R5;rw[<-z,Rx] at e;have e2:=Option.some.inj e
   injection e2 with e2
   rw[e2] at MZ;obtain⟨_,_,a,e,_⟩:=aL MZ (show([V.int l,V.int x]:List V)[0]?=some (V.int l) from rfl)
   cases e
  have Vh:=S6 _ _ Rx Y8;refine⟨_,rfl,_,rfl,wd,_,rfl,kg.t (k:=dR k) Kd (by rw[fQ];exact Ry _ _ Gb) ?_,?_⟩
  ·rw[dr.length];have:=congrArg List.length dk;rw[List.length_map,List.length_take] at this;exact Nat.lt_of_le_of_lt (by omega:_<=32) (by decide)
  have GJ:k∉d.map (·.1):=λmm=>by
   rw[dk] at mm
   have e2:(hJ n m).take (i+1)=(hJ n m).take i++[k]:=by rw[List.take_add_one,ek];rfl
   have n2:((hJ n m).take (i+1)).Nodup:=k2.sublist (List.take_sublist _ _);rw[e2,List.nodup_append] at n2;exact n2.2.2 k mm k (by simp) rfl
  have kU:az G6 (upd G6 wd (.dT (cg FF (dR k) (.ref an)))):=az.upd λxs z=>by rw[Kd] at z;cases z
  refine⟨⟨_,rfl⟩,Y7.put Kd,?_,gG.keep MZ (Ry.trans kU),_,d++[(k,tt,bb)],ae,DR.keep (Cf (n:=(tt,bb)) (dr.keep Ry) GJ Y6) kU,?_,λe he=>?_⟩
  ·rw[ai (i7 Vh Kd λz=>by cases z)];exact Vh
  ·rw[List.map_append,dk,List.take_add_one,ek];rfl
  ·rcases List.mem_append.mp he with he|he
   ·exact dg e he
   ·have:e=(k,tt,bb):=by simpa using he
    subst this;exact⟨hn,B1,B2⟩
 ·rintro σ G5 ⟨⟨o8,rfl⟩,MY,Rx,MZ,FF,d,hd,dr,dk,dg⟩;rw[yl,List.take_length] at dk;refine⟨BJ,λa1 Ij=>⟨_,rfl,Nat.zero_le _,λt1 IG=>?_⟩⟩;have s6:=(au (o:=.tup [.int 1,.int 1]) Ij).trans (au (o:=.tup []) IG);have ea:upd (upd G5 a1 (.tup [.int 1,.int 1])) t1 (.tup []) a1=some (bE 1 1):=au IG _ _ ae;have et:upd (upd G5 a1 (.tup [.int 1,.int 1])) t1 (.tup []) t1=some (.tup []):=ae;generalize upd (upd G5 a1 (.tup [.int 1,.int 1])) t1 (.tup [])=G6 at s6 ea et |-;have Kd:=s6 _ _ hd
  have dl:d.length<=32:=by
   have:=congrArg List.length dk;rw[List.length_map] at this;omega
  refine⟨wd,_,rfl,kg.t (k:=dR []) Kd et (by rw[dr.length];exact Nat.lt_of_le_of_lt dl (by decide)),?_⟩
  have nil_in:[]∈d.map (·.1):=by rw[dk];exact List.mem_of_getElem? k3
  have kU:az G6 (upd G6 wd (.dT (cg FF (dR []) (.ref a1)))):=az.upd λxs z=>by rw[Kd] at z;cases z
  have Vi:=DR.keep (Cu (n:=(1,1)) (dr.keep (az.of s6)) nil_in ea) kU;have Vj:=(MY.same s6).put (o:=.dT (cg FF (dR []) (.ref a1))) Kd;have e7:upd G6 wd (.dT (cg FF (dR []) (.ref a1))) wd=some (.dT (cg FF (dR []) (.ref a1))):=ae;generalize upd G6 wd (.dT (cg FF (dR []) (.ref a1)))=G7 at Vi Vj e7 |-;have keys:(gW [] (1,1) d).map (·.1)=hJ n m:=(uD _ _ _).trans dk
  have sm:∀e∈gW [] (1,1) d,(∀k∈e.1,0<=k/\k<10)/\e.1.length<=10/\B 60 e.2.1/\B 60 e.2.2:=λe he=>by
   have mk:e.1∈hJ n m:=by rw[<-keys];exact List.mem_map_of_mem he
   obtain⟨h1,h2⟩:=k1 _ mk;refine⟨λk hk=>by have:=h1 k hk;omega,by omega,?_⟩
   rcases pk he with⟨h3,_⟩|h3
   ·rw[h3];exact(v7 (p:=p) hp (by decide:1<=60)).2
   ·have:=(dg e h3).2;exact⟨this.1.mono (by decide),this.2.mono (by decide)⟩
  have good:pq p (gW [] (1,1) d):=λe he=>by
   rcases pk he with⟨h3,_⟩|h3
   ·rw[h3];exact v7 hp (by decide)
   ·have:=dg e h3;exact⟨this.1,this.2.1.mono (by decide),this.2.2.mono (by decide)⟩
  have one:∃n,(gW [] (1,1) d)[0]?=some ([],n):=by
   have l0:0<(gW [] (1,1) d).length:=by
    have:=congrArg List.length keys;rw[List.length_map] at this;have:=(List.getElem?_eq_some_iff.mp k3).1;omega
   have e0:((gW [] (1,1) d).map (·.1))[0]?=some []:=by rw[keys];exact k3
   rw[List.getElem?_map,List.getElem?_eq_getElem l0] at e0;refine⟨((gW [] (1,1) d)[0]).2,?_⟩;rw[List.getElem?_eq_getElem l0];exact congrArg some (Prod.ext (Option.some.inj e0) rfl)
  have len:(gW [] (1,1) d).length<=64:=by
   unfold gW;rw[List.length_map];omega
  obtain⟨LW,LX,LY⟩:=oH sm;refine⟨_,rfl,wd,_,sW (gW [] (1,1) d),rfl,.inr ⟨e7,λo=>?_⟩⟩
  have kF:az G7 (upd G7 wd (k9 o (cg FF (dR []) (.ref a1)))):=az.upd λxs z=>by rw[e7] at z;cases z
  have Vk:=DR.keep Vi kF;have PN:=Vj.put (o:=k9 o (cg FF (dR []) (.ref a1))) e7;refine⟨jS Vk,LW,LX,Nat.le_trans LY (by omega),?_⟩;exact⟨sa,wd,fl,r,ns,o,_,_,p,m,n,_,_,_,_,_,_,rfl,hp,good,by omega,by omega,by omega,by omega,⟨⟨ae,Vk,by rw[keys];exact k2,len,sm,one⟩,PN.f,PN.r,PN.s,PN.t⟩,fin⟩
end
noncomputable def ur (K:Frag)(Pt:Addr):Sp:=λvs H Q _=>∃(a:Addr)(ns:List Int),vs=[.ref a]/\uv K H a ns/\ns.length<=63/\qH Pt H/\∀H',Q (.bl true) H'
section
variable {P:vQ}{w:World}{K:PySem.W.Frag}{mg:FA}{base:Heap}
variable {fa:Addr}{A:Around}{outer:List Env}{s0:Fp}{H0:Hp}{E0:XK}{C CF Ik ND IP cc Pt:Addr}{GD:ET}
set_option maxHeartbeats 1000000 in
theorem yv {Q:VK}{vs:List V}(Hh:om 8 (XL P w K mg base fa (.ref cc) A outer s0 H0 E0).A)(W:zx P w K mg base C CF Ik ND IP cc Pt GD)(h:ur K Pt vs H0 Q E0):
 ∃t,iE (XL P w K mg base fa (.ref cc) A outer s0 H0 E0) (bo gD) t/\t {nx:=λ_ H'=>Q .non H',rt:=Q} (fR NW vs) H0:=by
 obtain⟨fRm,Y9,Za,Zb,Zc,Zd⟩:=W.room;obtain⟨fPr,Ze,Zf,Zg,Zh,Zi⟩:=W.prime;have HE:=Hh.mono (show 3<=8 by decide);have G9:=Hh.mono (show 2<=8 by decide);have FY:=Hh.mono (show 1<=8 by decide);obtain⟨a,ns,rfl,Vl,hlen,tb,fin⟩:=h
 refine⟨_,(aj (c9 PassesOwn.never rfl (eM (by rfl) W.m_range (@aq _ _ _ _ _ (aF (TyX rfl) (by rfl) W.m_max (by rfl) (@aq _ _ _ _ _ ak (@aq _ _ _ _ _ (aF (aaU rfl) (by rfl) W.m_min (by rfl) (@aq _ _ _ _ _ (aF bU (by rfl) W.m_len PySem.boot_len (@aq _ _ _ _ _ (pv 0) ah rfl)) (@aq _ _ _ _ _ ak ah rfl) rfl)) ah rfl) rfl)) ah rfl)) (aE (i:=1) dQ.nd rfl (Or.inl rfl))
  (aj (@aK _ _ 2 _ _ _ _ dQ.nd rfl (Or.inl rfl) (ax Za FY (by rfl) Zc Zd Zb .nil ag (@aq _ _ _ _ _ (pv 0) (@aq _ _ _ _ _ (pv 1) ah rfl) rfl)) rfl (Or.inl rfl))
  (aj (@aK _ _ 3 _ _ _ _ dQ.nd rfl (Or.inl rfl) (ax Zf G9 (by rfl) Zh Zi Zg .nil ag (@aq _ _ _ _ _ (pv 2) ah rfl)) rfl (Or.inl rfl))
  (aj (@aK _ _ 4 _ _ _ _ dQ.nd rfl (Or.inl rfl) (sY W.MF W.FFI HE (by rfl) W.cF.mgC W.bFFI .nil ag (@aq _ _ _ _ _ (pv 3) ah rfl)) rfl (Or.inl rfl))
  (v5 Hh W)))))
  (ar (aB fF))),?_⟩
 refine⟨_,rfl,a,_,rfl,.inl Vl.sq,_,_,rfl,_,_,rfl,_,rfl,?_,?_,?_⟩
 ·rw[List.length_map]
  split <;> split <;> omega
 ·rw[List.length_map]
  split <;> split <;> omega
 refine lS (lo:=0) (λi σ H'=>(∃o1 o2 o3 o4 o5 o6 o7 o8 o9 GK GL GN GO,σ=[some (.ref a),o1,o2,o3,o4,o5,o6,o7,o8,o9,GK,GL,GN,GO])/\uv K H' a ns/\qH Pt H') ⟨⟨_,_,_,_,_,_,_,_,_,_,_,_,_,rfl⟩,Vl,tb⟩ ?_ ?_
 ·rintro i σ G0 hi ⟨⟨o1,o2,o3,o4,o5,o6,o7,o8,o9,GK,GL,GN,GO,rfl⟩,Rz,Vm⟩
  have Zj:i<60:=by
   rw[List.length_map] at hi
   split at hi <;> split at hi <;> omega
  refine⟨_,rfl,_,rfl,a,ns,0+(i:Int),rfl,Rz.sq,hlen,by omega,by omega,λr l1 r1 O9 FY G9=>?_⟩;have S1:=au (o:=.lst [.int l1,.int r1]) O9;have RA:=Rz.kp (Kp.of S1);have RB:=Vm.same S1;have R1:aZ (upd G0 r (.lst [.int l1,.int r1])) r:=⟨l1,r1,ae,FY,G9⟩;generalize (upd G0 r (.lst [.int l1,.int r1]))=G1 at RA RB R1 |-;clear Rz Vm O9 S1;refine⟨_,rfl,r,rfl,R1,λp G2 hp R2 S2=>?_⟩;have Zk:=RA.but R1 S2;have Zl:=j2 RB R1 S2;clear RA RB S2 R1;refine⟨_,rfl,λfl F3 Zm RC FX=>?_⟩;refine qQ Zm RC FX hp λG3 S3 Zn=>?_;exact⟨a,fl,r,ns,p,_,_,_,_,_,_,_,_,_,_,rfl,hp,⟨⟨F3,Zn⟩,R2.same S3,Zk.kp (Kp.of S3),Zl.same S3⟩,λσ' HB h1 h2 h3=>⟨h1,h2,h3⟩⟩
 ·rintro σ H' ⟨⟨o1,o2,o3,o4,o5,o6,o7,o8,o9,GK,GL,GN,GO,rfl⟩,_,_⟩;exact fin _
theorem A9 {f:Addr}{oc kV doc pm ct:Value}{od an:CC}{F0:DP}(lk:K.lookup f=some ⟨oc,od,.func (fnOf "law" "law" (bH gD) (bo gD) (ao gD) .none kV doc pm an (.ref cc) ct),F0⟩)(Gs:codeIn K (.ref cc) "law"=true)
 (W:zx P w K mg base C CF Ik ND IP cc Pt GD):Bu P w K mg base (aS P w) 9 f (fnOf "law" "law" (bH gD) (bo gD) (ao gD) .none kV doc pm an (.ref cc) ct) ["_law_script"] (ur K Pt):=by
 refine tE lk Gs dQ (λvs H Q E h=>?_) λA outer s H vs Q E hr HK=>?_
 ·obtain⟨a,ns,rfl,_⟩:=h;rfl
 ·obtain⟨t,h,q⟩:=yv (fa:=f) (A:=A) (outer:=outer) (s0:=s) (H0:=H) (E0:=E) hr W HK;exact⟨t,h.nox,q⟩
end
end K24
namespace Hd
open PySem PySem.W PyProof.Rows
noncomputable def oZ (K:Frag)(x qual:Str)(st:Stmt)(f:Addr):Prop:=∃(oc:Value)(od:CC)(kV doc pm:Value)(an:CC)(FJ ct:Value)(F0:DP),
 K.lookup f=some ⟨oc,od,.func (fnOf x qual (L2.bH st) (L2.bo st) (L2.ao st) .none kV doc pm an FJ ct),F0⟩/\codeIn K FJ qual=true/\keepIn K (.ref f)=true
variable {K:Frag}{v:Option (Option Value)}{x qual:Str}{st:Stmt}
theorem rM (h:aU K v=dy x qual st)(b:dn K v qual=true):v=some (some (.ref (c4 v)))/\oZ K x qual st (c4 v):=by
 unfold aU at h;obtain⟨fd,e,s⟩:=Option.map_eq_some_iff.mp (show(j6 K v).map AH=some _ from h);unfold dn at b;rw[e] at b;rw[Bool.and_eq_true] at b;unfold j6 at e
 split at e
 ·rename_i f
  split at e
  ·rename_i oc od Vn F0 hl
   cases e
   refine⟨rfl,oc,od,fd.kwdefaults,fd.doc,fd.pyModule,fd.annotations,fd.code,fd.closureTuple,F0,?_,b.2,b.1⟩;show K.lookup f=_;rw[hl];obtain⟨n,q,p,bd,sc,g,c,dv,kv,dc,pm,an,cd,ct,bl⟩:=fd;unfold AH at s;simp only[Prod.mk.injEq] at s;obtain⟨rfl,rfl,rfl,rfl,rfl,rfl,rfl,rfl,rfl⟩:=s;rfl
  ·cases e
 ·cases e
variable {f:Addr}
theorem oZ.fn (d:oZ K x qual st f):∃fd,L2.uB K x qual st f fd:=by
 obtain⟨oc,od,kV,doc,pm,an,FJ,ct,F0,l,c,k⟩:=d;exact⟨_,L2.Bj l c k⟩
theorem oZ.keep (d:oZ K x qual st f):keepIn K (.ref f)=true:=by
 obtain⟨oc,od,kV,doc,pm,an,FJ,ct,F0,l,c,k⟩:=d;exact k
noncomputable def yt (K:Frag)(x qual:Str)(st:Stmt)(f T:Addr):Prop:=∃(oc:Value)(od:CC)(kV doc pm:Value)(an:CC)(FJ ct:Value)(F0:DP),
 K.lookup f=some ⟨oc,od,.func (fnOf x qual (L2.bH st) (L2.bo st) (L2.ao st) (.ref T) kV doc pm an FJ ct),F0⟩/\codeIn K FJ qual=true/\keepIn K (.ref f)=true
theorem jm (h:gQ K v=dy x qual st)(b:dn K v qual=true)(d:rT K v=true):v=some (some (.ref (c4 v)))/\yt K x qual st (c4 v) (nO K v):=by
 unfold gQ at h;obtain⟨fd,e,s⟩:=Option.map_eq_some_iff.mp (show(j6 K v).map (λfd=>AH {fd with defaults:=.none})=some _ from h)
 have hd:fd.defaults=.ref (nO K v):=by
  unfold rT DV at d;unfold nO DV;rw[e] at d |-;dsimp only at d |-
  cases q:fd.defaults with
  |ref a=>rfl
  |_=>rw[q] at d;cases d
 unfold dn at b;rw[e] at b;rw[Bool.and_eq_true] at b;generalize nO K v=T at hd;unfold j6 at e
 split at e
 ·rename_i f
  split at e
  ·rename_i oc od Vn F0 hl
   cases e
   refine⟨rfl,oc,od,fd.kwdefaults,fd.doc,fd.pyModule,fd.annotations,fd.code,fd.closureTuple,F0,?_,b.2,b.1⟩;show K.lookup f=_;rw[hl];obtain⟨n,q,p,bd,sc,g,c,dv,kv,dc,pm,an,cd,ct,bl⟩:=fd;unfold AH at s;simp only[Prod.mk.injEq] at s;have hd:dv=.ref T:=hd;subst hd;obtain⟨rfl,rfl,rfl,rfl,rfl,rfl,rfl,_,rfl⟩:=s;rfl
  ·cases e
 ·cases e
theorem yt.fn {T:Addr}(d:yt K x qual st f T):∃fd,L2.Ec K x qual st f fd T:=by
 obtain⟨oc,od,kV,doc,pm,an,FJ,ct,F0,l,c,k⟩:=d;exact⟨_,L2.zc l c k⟩
theorem yt.keep {T:Addr}(d:yt K x qual st f T):keepIn K (.ref f)=true:=by
 obtain⟨oc,od,kV,doc,pm,an,FJ,ct,F0,l,c,k⟩:=d;exact k
noncomputable def Ee (K:Frag)(x qual:Str)(st:Stmt)(f c:Addr):Prop:=∃(oc:Value)(od:CC)(kV doc pm:Value)(an:CC)(ct:Value)(F0:DP),
 K.lookup f=some ⟨oc,od,.func (fnOf x qual (L2.bH st) (L2.bo st) (L2.ao st) .none kV doc pm an (.ref c) ct),F0⟩/\codeIn K (.ref c) qual=true/\keepIn K (.ref f)=true
theorem t7 {cc:Addr}(h:aU K v=dy x qual st)(b:dn K v qual=true)(d:wu K v cc=true):v=some (some (.ref (c4 v)))/\Ee K x qual st (c4 v) cc:=by
 unfold aU at h;obtain⟨fd,e,s⟩:=Option.map_eq_some_iff.mp (show(j6 K v).map AH=some _ from h)
 have hd:fd.code=.ref cc:=by
  unfold wu at d;rw[e] at d;dsimp only at d
  cases q:fd.code with
  |ref a =>
   rw[q] at d
   have:a=cc:=by simpa using d
   rw[this]
  |_=>rw[q] at d;cases d
 unfold dn at b;rw[e] at b;rw[Bool.and_eq_true] at b;unfold j6 at e
 split at e
 ·rename_i f
  split at e
  ·rename_i oc od Vn F0 hl
   cases e
   have b2:codeIn K fd.code qual=true:=b.2;rw[hd] at b2;refine⟨rfl,oc,od,fd.kwdefaults,fd.doc,fd.pyModule,fd.annotations,fd.closureTuple,F0,?_,b2,b.1⟩;show K.lookup f=_;rw[hl];obtain⟨n,q,p,bd,sc,g,c,dv,kv,dc,pm,an,cd,ct,bl⟩:=fd;unfold AH at s;simp only[Prod.mk.injEq] at s;have hd:cd=.ref cc:=hd;subst hd;obtain⟨rfl,rfl,rfl,rfl,rfl,rfl,rfl,rfl,rfl⟩:=s;rfl
  ·cases e
 ·cases e
theorem p7:∀{vs:qw}{ns:List Int},ue vs ns=true->L2.aG (ns.map L2.V.int) vs
 |[],[],_=>.nil
 |v::vs,n::ns,h=>by
  unfold ue at h;rw[Bool.and_eq_true] at h;obtain⟨t,rfl⟩:=iK h.1;exact .cons ⟨t,rfl⟩ (p7 h.2)
 |[],_::_,h=>by cases h
 |_::_,[],h=>by cases h
theorem tm {a:Addr}{ns:List Int}(h:wx K a ns=true)(H:L2.Hp):L2.bf K H a (ns.map L2.V.int):=by
 unfold wx at h
 split at h
 ·rename_i o ho
  rw[Bool.and_eq_true] at h;obtain⟨h1,h2⟩:=h
  split at h1
  ·rename_i T hT
   split at h2
   ·rename_i its n hd
    rw[Bool.and_eq_true] at h2
    have:T="tuple":=by simpa using h1
    subst this;exact .inr ⟨o,its,n,ho,hT,hd,of_decide_eq_true h2.2,p7 h2.1⟩
   ·cases h2
  ·cases h1
 ·cases h
theorem nE (h:xv K=true):L2.oj K:=by
 unfold xv at h
 split at h
 ·rename_i o ho
  split at h
  ·rename_i T hT
   have:T="dict":=by simpa using h
   subst this;exact⟨o,ho,hT⟩
  ·cases h
 ·cases h
open L2 in
theorem uO {l:OpenLaw}{n k:Nat}{q:vQ}{loose:wk}{XP:(Str->Option Value)->Heap->Prop}{YP:World->Heap->Prop}{d:DefRec}{CX:World->AP}{sp:Frag->Sp}{x:Str}{φ:Frag->Prop}{tabs:Frag->List (Addr×Addr)}
 (hn:l.most=some n)(OX:n<=sizeLine)(Mh:d.params.defaults=[])(hr:om k callerA)
 (hY:∀(w:World)(h:Heap),YP w h->∃K:Frag,φ K/\K.In h)
 (hT:∀(w:World)(s₀:Fp)(mg mb:FA)(h:Heap)(K:Frag),φ K->Ground q loose [] XP w s₀ mg mb h->K.In h->TabsAt (tabs K) h/\∀r∈tabs K,K.lookup r.2=none)
 (F:∀(w:World)(K:Frag)(mg:FA)(fa:Addr)(h:Heap),φ K->K.In h->h.Ns mainGlobals mg->mg d.name=some (.ref fa) →
  ∃fd:FuncData,(∀(s:Fp)(u:Value),BindsTo s fd ⟨[u],[]⟩ [(x,u)])/\∀base:Heap,K.In base->base.Ns mainGlobals mg->zd (tabs K) mg base->Bu l.prog w K mg base (CX w) k fa fd [x] (sp K))
 (HK:∀(K:Frag)(H:Hp)(a:Addr)(ns:List Int),ns.length<=n->wY (tabs K) H->aY K H a (ns.map V.int)->sp K [.ref a] H (λv _=>v=.bl true) λ_ _ _=>False)
 (QA:∀(w:World)(H:Hp)(s:Fp)(e:Value)(s':Fp),CX w [] H s (λ_ _ _=>False) e s'->False):
 WalkO q loose XP YP l.row.toRowW d [] (λf vs=>PySem.call f vs):=by
 refine TL.qd hn Mh λw s₀ s₁ mg mb fa o pm cd doc a vs ns G Y ho hd Gs Qg KN hints hlen hg=>?_;obtain⟨K,hφ,KX⟩:=hY w _ Y;obtain⟨fd,hb,hF⟩:=F w K mg fa _ hφ KX G.T.g Qg;obtain⟨t1,t2⟩:=hT w s₀ mg mb _ K hφ G KX;exact uA KX G.T.g G.T.b G.T.builtins G.T.nolimit hg KN hints (Nat.le_trans hlen OX) hr t1 t2 G.T.bmain hF hb (λH hO hS=>HK K H a ns hlen hO hS) λH e s'=>QA w H s₁ e s'
open L2
theorem zS (l:qw):yT l=iz l:=by
 induction l with
 |nil=>rfl
 |cons v r ih =>
  cases v with
  |ref a=>exact ih
  |_=>rfl
theorem yG {α:Type}{o:Option α}{p:α->Bool}(h:o.any p=true):∃v,o=some v/\p v=true:=by
 cases o with
 |none=>cases h
 |some v=>exact⟨v,rfl,h⟩
section
variable {P:vQ}{w:World}{K:Frag}{mg:FA}{base:Heap}{x:Str}{C f:Addr}{fd:ET}{ps:wk}{sp:Sp}
theorem pE (h:wK K C f yP Ac "LookupError.__new__"=true)(k:p3 K C)(sa:findIn K (.ref C) "__setattr__"=some (some (.builtin "object.__setattr__"))):ze K C:=by
 simp only[wK,Bool.and_eq_true] at h;refine⟨k,?_,sa⟩;obtain⟨cd,e,q⟩:=yG h.2.1;rw[e];rw[zS,Bool.or_comm] at q;exact q
theorem BY (hm:mg x=some (.ref C))(h:wK K C f yP Ac "LookupError.__new__"=true)(k:p3 K C)(sa:findIn K (.ref C) "__setattr__"=some (some (.builtin "object.__setattr__")))(F:Bu P w K mg base (aS P w) 1 f fd ps sp)(b:L2.aA K fd ps []):IK P w K mg base x C ps sp:=by
 have s:=pE h k sa;simp only[wK,Bool.and_eq_true] at h;obtain⟨h0,_,h4,h5,h6⟩:=h;obtain⟨oC,e1,e2⟩:=yG h4;obtain⟨oI,e3,e4⟩:=yG h5;exact⟨hm,h0,s,k,⟨oC,e1,eq_of_beq e2⟩,⟨f,fd,oI,_,_,_,_,_,_,PySem.F.excBase_LookupError,by decide +kernel,yr,h6,e3,eq_of_beq e4,F,b⟩⟩
end
end Hd
namespace K24
open PySem L2 PySem.W Nm
open Hd (gv ga fv c4 dO b7 cQ aR iR cX jd cE dn aU gQ dy rT nO rD ia wO oF Ay iK qF iC wx xv wu rM jm t7 tm nE)
section
variable {α:Type}{M:List α->Prop}
theorem Cj (h:∀a,M [a]):∀us:List α,us.length=1->M us
 |[a],_=>h a
theorem vZ (h:∀a b,M [a,b]):∀us:List α,us.length=2->M us
 |[a,b],_=>h a b
theorem qS (h:∀a b c,M [a,b,c]):∀us:List α,us.length=3->M us
 |[a,b,c],_=>h a b c
theorem Du (h:∀a b c d,M [a,b,c,d]):∀us:List α,us.length=4->M us
 |[a,b,c,d],_=>h a b c d
end
section
variable {K:Frag}{f T:Addr}{fd:ET}{oT:Obj}{t:Tok}{n:Nat}
theorem CZ (F:Ec K "__init__" "Field.__init__" xc f fd T)(lT:K.lookup T=some oT)(dT:oT.data=.seq #[.int 0 t] n):L2.aA K fd BV []:=by
 obtain⟨oc,od,kV,doc,pm,an,FJ,ct,F0,rfl,lk,Gs⟩:=F.ex;intro s us KX hl
 cases us with
 |nil=>simp at hl
 |cons a0 r1 =>
  cases r1 with
  |nil=>simp at hl
  |cons a1 r2 =>
   cases r2 with
   |nil=>exact binds_K KX rfl lT dT rfl rfl
   |cons a r=>simp at hl
theorem CM (F:Ec K "made" "Field.made" wF f fd T)(lT:K.lookup T=some oT)(dT:oT.data=.seq #[.int 1 t] n):L2.aA K fd ER []:=by
 obtain⟨oc,od,kV,doc,pm,an,FJ,ct,F0,rfl,lk,Gs⟩:=F.ex;intro s us KX hl
 cases us with
 |nil=>simp at hl
 |cons a0 r1 =>
  cases r1 with
  |nil=>simp at hl
  |cons a1 r2 =>
   cases r2 with
   |nil=>simp at hl
   |cons a2 r3 =>
    cases r3 with
    |nil=>exact binds_K KX rfl lT dT rfl rfl
    |cons a r=>simp at hl
theorem B8 (F:Ec K "__init__" "Sum.__init__" rX f fd T)(lT:K.lookup T=some oT)(dT:oT.data=.seq #[.none] n):L2.aA K fd xR []:=by
 obtain⟨oc,od,kV,doc,pm,an,FJ,ct,F0,rfl,lk,Gs⟩:=F.ex;intro s us KX hl
 cases us with
 |nil=>simp at hl
 |cons a0 r1 =>
  cases r1 with
  |nil=>simp at hl
  |cons a1 r2 =>
   cases r2 with
   |nil=>simp at hl
   |cons a2 r3 =>
    cases r3 with
    |nil=>exact binds_K KX rfl lT dT rfl rfl
    |cons a r=>simp at hl
end
section
variable {K:Frag}{x qual n:Str}{st:Stmt}{ps:wk}
theorem gS {mg:FA}{h:Heap}(X:K.In h)(G:h.Ns mainGlobals mg)(s:aU K (gv K n)=dy x qual st)(b:dn K (gv K n) qual=true)(hb:∀(kV doc pm:Value)(an:CC)(FJ ct:Value)(us:qw),us.length=ps.length->bindArgs (PySem.W.fnOf x qual (bH st) (bo st) (ao st) .none kV doc pm an FJ ct) ⟨us,[]⟩=pure (ps.zip us)):∃fd,uB K x qual st (ga K n) fd/\L2.aA K fd ps []/\mg n=some (.ref (ga K n))/\keepIn K (.ref (ga K n))=true:=by
 obtain⟨e,d⟩:=rM s b;obtain⟨fd,F⟩:=d.fn;exact⟨fd,F,F.binds hb,mg_of X G e,d.keep⟩
theorem Bi {c:Str}(s:aU K (fv K c n)=dy x qual st)(b:dn K (fv K c n) qual=true)(i:isFn K (.ref (c4 (fv K c n)))=true)(hb:∀(kV doc pm:Value)(an:CC)(FJ ct:Value)(us:qw),us.length=ps.length->bindArgs (PySem.W.fnOf x qual (bH st) (bo st) (ao st) .none kV doc pm an FJ ct) ⟨us,[]⟩=pure (ps.zip us)):∃fd,uB K x qual st (c4 (fv K c n)) fd/\L2.aA K fd ps []/\L2.Meth K (ga K c) n (c4 (fv K c n))/\findIn K (.ref (ga K c)) n=some (some (.ref (c4 (fv K c n))))/\isFn K (.ref (c4 (fv K c n)))=true:=by
 obtain⟨e,d⟩:=rM s b;obtain⟨fd,F⟩:=d.fn;exact⟨fd,F,F.binds hb,⟨e,i,d.keep⟩,e,i⟩
end
noncomputable def wH (_:World)(h:Heap):Prop:=∃K:Frag,rO K=dueK/\K.In h
theorem Ap (w:World)(s:Fp)(e:rO (Hd.ya sk s.heap)=dueK):wH w s.heap:=⟨_,e,Hd.oG _ _⟩
theorem qC (w:World)(h h':Heap)(y:wH w h)(k:∀(b:Addr)(o:Obj),h.get? b=some o->h'.get? b=some o):wH w h':=let⟨K,e,i⟩:=y;⟨K,e,λa o q=>k a o (i a o q)⟩
set_option maxHeartbeats 0 in
theorem qO {l:OpenLaw}{w:World}{K:Frag}{mg:FA}{h:Heap}{fa:Addr}(o:rO K=dueK)(X:K.In h)(G:h.Ns mainGlobals mg)(Zo:mg "law"=some (.ref fa)):
 ∃fd:FuncData,(∀(s:Fp)(v:Value),BindsTo s fd ⟨[v],[]⟩ [("_law_script",v)])/\∀base:Heap,K.In base->base.Ns mainGlobals mg->zd [g9 K] mg base->Bu l.prog w K mg base (aS l.prog w) 9 fa fd ["_law_script"] (ur K (g9 K).2):=by
 obtain⟨o1,o2⟩:=Prod.mk.inj (show(kj K,_)=(true,_) from o);simp only[List.cons.injEq,and_true] at o2;obtain⟨s0,s1,s2,s3,s4,s5,s6,s7,s8,s9,Mr,Zq,Zr,Zt,Zu,Zv,Zw,Zx,Zy,Zz,ZA,ZC,ZD,ZE,ZF,ZG,ZH,ZI,ZJ,ZK,ZL,ZM,ZN,ZO,ZP,ZQ,ZR,ZS,ZT,ZU,ZV,ZW⟩:=o2;unfold kj at o1;simp only[Bool.and_eq_true] at o1;obtain⟨g0,g1,g2,g3,g4,g5,g6,g7,g8⟩:=o1;unfold Ff at g0;simp only[Bool.and_eq_true] at g0;obtain⟨h0,h1,h2,h3,h4,h5,h6,h7,h8,h9,h10,h11,h12,h13,h14,h15⟩:=g0;unfold Fe at g1;simp only[Bool.and_eq_true] at g1;obtain⟨h16,h17,h18,h19,h20,h21,h22,h23,h24,h25,h26,h27,h28,h29,h30,h31⟩:=g1;unfold Fi at g2;simp only[Bool.and_eq_true] at g2;obtain⟨h32,h33,h34,h35,h36,h37,h38,h39,h40,h41,h42,h43,h44,h45,h46,h47⟩:=g2;unfold E8 at g3;simp only[Bool.and_eq_true] at g3;obtain⟨h48,h49,h50,h51,h52,h53,h54,h55,h56,h57,h58,h59,h60,h61,h62,h63⟩:=g3;unfold E9 at g4;simp only[Bool.and_eq_true] at g4;obtain⟨h64,h65,h66,h67,h68,h69,h70,h71,h72,h73,h74,h75,h76,h77,h78,h79⟩:=g4;unfold Fj at g5;simp only[Bool.and_eq_true] at g5;obtain⟨h80,h81,h82,h83,h84,h85,h86,h87,h88,h89,h90,h91,h92,h93,h94,h95⟩:=g5;unfold E6 at g6;simp only[Bool.and_eq_true] at g6;obtain⟨h96,h97,h98,h99,h100,h101,h102,h103,h104,h105,h106,h107,h108,h109,h110,h111⟩:=g6;unfold E4 at g7;simp only[Bool.and_eq_true] at g7;obtain⟨h112,h113,h114,h115,h116,h117,h118,h119,h120,h121,h122,h123,h124,h125,h126,h127⟩:=g7;unfold EF at g8;simp only[Bool.and_eq_true] at g8;obtain⟨h128,h129,h130,h131,h132,h133,h134,h135,h136,h137,h138,h139,h140⟩:=g8;have m:=λ{n:Str}{v:Value}(e:nsIn K mainGlobals n=some (some v))=>mg_of X G e;have m0:=λ{n:Str}(e:nsIn K mainGlobals n=some none)=>mg_none_of X G e;have FH:=m0 (aR h0);have m_int:=m0 (aR h1);have Ll:=m0 (aR h2);have Hg:=m0 (aR h3);have HH:=m0 (aR h4);have Ke:=m0 (aR h5);have m_len:=m0 (aR h6);have FZ:=m0 (aR h7);have HQ:=m0 (aR h8);have IB:=m0 (aR h9);have Gp:=m0 (aR h10);have F9:=m0 (aR h11);have F7:=m0 (aR h12);have m_max:=m0 (aR h13);have m_min:=m0 (aR h14);have m_range:=m0 (aR h15);have m_repr:=m0 (aR h16);have Hf:=m0 (aR h17);have IM:=m0 (aR h18);have M0:=m (b7 h19);have JE:=m (b7 h20);have Gi:=m (b7 h21);have GF:=m (b7 h22);have Hn:=m (b7 h23);have HX:=m (b7 h24);have HY:=m (b7 h25);have GG:=m (b7 h26);have HZ:=m (b7 h27);have IQ:=m (b7 h28);obtain⟨Kf,Ho⟩:=iC h29;have F4:=m Ho;obtain⟨Jl,GP⟩:=iC h30;have GQ:=m GP;obtain⟨Jm,GR⟩:=iC h31;have GS:=m GR;obtain⟨Vo,RD,IS,Hr,IT⟩:=gS X G (ps:=["thing"]) s0 h32 λ_ _ _ _ _ _=>Cj λ_=>rfl;obtain⟨Vp,RE,RG,M3,RH⟩:=gS X G (ps:=["thing"]) s1 h33 λ_ _ _ _ _ _=>Cj λ_=>rfl;obtain⟨Vq,RI,RJ,M4,RK⟩:=gS X G (ps:=["thing"]) s2 h34 λ_ _ _ _ _ _=>Cj λ_=>rfl;obtain⟨Vr,RL,RM,M5,RN⟩:=gS X G (ps:=["field","thing"]) s3 h35 λ_ _ _ _ _ _=>vZ λ_ _=>rfl;obtain⟨Vs,RO,RP,M6,RQ⟩:=gS X G (ps:=["field","terms"]) s4 h36 λ_ _ _ _ _ _=>vZ λ_ _=>rfl;obtain⟨Vt,RS,RT,M7,ZX⟩:=gS X G (ps:=["term"]) s5 h37 λ_ _ _ _ _ _=>Cj λ_=>rfl;obtain⟨Vu,RU,RV,M8,RX⟩:=gS X G (ps:=["field","terms"]) s6 h38 λ_ _ _ _ _ _=>vZ λ_ _=>rfl;obtain⟨Vv,RY,Lm,IU,Ln⟩:=gS X G (ps:=["one","other"]) s7 h39 λ_ _ _ _ _ _=>vZ λ_ _=>rfl;obtain⟨Vw,RZ,M9,Kg,Na⟩:=gS X G (ps:=["top","bottom"]) s8 h40 λ_ _ _ _ _ _=>vZ λ_ _=>rfl;obtain⟨Vx,R0,R7,Nb,R8⟩:=gS X G (ps:=["number","prime"]) s9 h41 λ_ _ _ _ _ _=>vZ λ_ _=>rfl;obtain⟨R9,Nc,Nd,Lo,Nf⟩:=gS X G (ps:=["degree"]) Mr h42 λ_ _ _ _ _ _=>Cj λ_=>rfl;obtain⟨Sa,Ng,Kh,IV,Ki⟩:=gS X G (ps:=["numbers"]) Zq h43 λ_ _ _ _ _ _=>Cj λ_=>rfl;obtain⟨Sb,Nh,Ni,Lp,Nj⟩:=gS X G (ps:=["sums"]) Zr h44 λ_ _ _ _ _ _=>Cj λ_=>rfl;obtain⟨Sd,Nk,Nl,Lq,Nn⟩:=gS X G (ps:=["worths","one"]) Zt h45 λ_ _ _ _ _ _=>vZ λ_ _=>rfl;obtain⟨Se,Np,Kj,IW,Kk⟩:=gS X G (ps:=["worths","degree"]) Zu h46 λ_ _ _ _ _ _=>vZ λ_ _=>rfl;obtain⟨Sf,Nq,Nr,Lr,Nt⟩:=gS X G (ps:=["_law_script","_law_k"]) Zv h47 λ_ _ _ _ _ _=>vZ λ_ _=>rfl;obtain⟨Sg,Nu,Hs,GH,Ht⟩:=gS X G (ps:=["_law_room_here","_law_many"]) Zw h48 λ_ _ _ _ _ _=>vZ λ_ _=>rfl;obtain⟨Sh,Nv,Kl,IX,Km⟩:=gS X G (ps:=["_law_top","_law_base"]) Zx h49 λ_ _ _ _ _ _=>vZ λ_ _=>rfl;obtain⟨Si,Nw,Kn,IY,Ko⟩:=gS X G (ps:=["_law_prime_here","_law_top","_law_base"]) Zy h50 λ_ _ _ _ _ _=>qS λ_ _ _=>rfl;obtain⟨Sj,Ny,Kq,IZ,Kr⟩:=gS X G (ps:=["_law_prime_here","_law_one","_law_other"]) Zz h51 λ_ _ _ _ _ _=>qS λ_ _ _=>rfl;obtain⟨Sk,Nz,NA,Ls,NB⟩:=gS X G (ps:=["_law_prime_here","_law_one","_law_other"]) ZA h52 λ_ _ _ _ _ _=>qS λ_ _ _=>rfl;obtain⟨Sl,NC,NG,Lu,NH⟩:=gS X G (ps:=["_law_room_here"]) ZC h53 λ_ _ _ _ _ _=>Cj λ_=>rfl;obtain⟨Sm,NJ,Ks,Ja,Kt⟩:=gS X G (ps:=["_law_room_here","_law_prime_here"]) ZD h54 λ_ _ _ _ _ _=>vZ λ_ _=>rfl;obtain⟨Sn,NK,NL,Lv,NM⟩:=gS X G (ps:=["_law_room_here","_law_many","_law_share"]) ZE h55 λ_ _ _ _ _ _=>qS λ_ _ _=>rfl;obtain⟨So,NO,NP,Lw,NQ⟩:=gS X G (ps:=["_law_room_here","_law_prime_here","_law_many","_law_most"]) ZF h56 λ_ _ _ _ _ _=>Du λ_ _ _ _=>rfl;obtain⟨Sq,NR,NS,Lx,NT⟩:=gS X G (ps:=["_law_prime_here","_law_terms_here"]) ZG h57 λ_ _ _ _ _ _=>vZ λ_ _=>rfl;obtain⟨Sr,NU,NV,Ly,NX⟩:=gS X G (ps:=["_law_many","_law_most"]) ZH h58 λ_ _ _ _ _ _=>vZ λ_ _=>rfl;obtain⟨Ss,NY,NZ,Lz,N0⟩:=gS X G (ps:=["_law_call"]) ZI h59 λ_ _ _ _ _ _=>Cj λ_=>rfl;obtain⟨Su,N1,N2,LA,N3⟩:=gS X G (ps:=["_law_worths","_law_one"]) ZJ h60 λ_ _ _ _ _ _=>vZ λ_ _=>rfl;obtain⟨Sv,N4,N5,LB,N6⟩:=gS X G (ps:=["_law_field","_law_prime_here","_law_worths","_law_rows"]) ZK h61 λ_ _ _ _ _ _=>Du λ_ _ _ _=>rfl;obtain⟨Sw,N7,N8,LC,N9⟩:=gS X G (ps:=["_law_worths","_law_degree"]) ZL h62 λ_ _ _ _ _ _=>vZ λ_ _=>rfl;obtain⟨Vy,Sx,Oa,Ob,ZY,ZZ⟩:=Bi (ps:=["self"]) ZM h63 h64 λ_ _ _ _ _ _=>Cj λ_=>rfl;obtain⟨Vz,Sy,Sz,SA,Z0,Z1⟩:=Bi (ps:=["self"]) ZN h65 h66 λ_ _ _ _ _ _=>Cj λ_=>rfl;obtain⟨VA,SD,SE,SG,Z2,Z3⟩:=Bi (ps:=["self","one","other"]) ZO h67 h68 λ_ _ _ _ _ _=>qS λ_ _ _=>rfl;obtain⟨VB,SH,SI,SJ,Z4,Z5⟩:=Bi (ps:=["self","top","bottom"]) ZP h69 h70 λ_ _ _ _ _ _=>qS λ_ _ _=>rfl;obtain⟨VC,SK,SM,SN,Z6,Z7⟩:=Bi (ps:=["self","thing"]) ZQ h71 h72 λ_ _ _ _ _ _=>vZ λ_ _=>rfl;obtain⟨VD,SO,SQ,SR,Z8,Z9⟩:=Bi (ps:=["self","top","bottom"]) ZR h73 h74 λ_ _ _ _ _ _=>qS λ_ _ _=>rfl;obtain⟨VE,SS,SU,aaa,aab,aac⟩:=Bi (ps:=["self","product"]) ZS h75 h76 λ_ _ _ _ _ _=>vZ λ_ _=>rfl;obtain⟨Oc,Od⟩:=jm ZT h77 h79;have SV:=h78;have aad:L2.Meth K _ "__init__" _:=⟨Oc,h78,Od.keep⟩;obtain⟨VF,Oe⟩:=Od.fn;obtain⟨aae,aaf,aag,Of,Og,Oh⟩:=ia h80;obtain⟨Oi,Oj⟩:=jm ZU h81 h83;have SW:=h82;have aah:L2.Meth K _ "__init__" _:=⟨Oi,h82,Oj.keep⟩;obtain⟨VG,Ol⟩:=Oj.fn;obtain⟨aai,aaj,aak,Om,Oo,Oq⟩:=ia h84;obtain⟨SX,Ot⟩:=jm ZV h85 h87;have aal:=h86;have SY:L2.Meth K _ "made" _:=⟨SX,h86,Ot.keep⟩;obtain⟨VH,Ou⟩:=Ot.fn;obtain⟨aam,aan,aao,Ov,Ow,Ox⟩:=ia h88;have Oy:=oF Oh;subst Oy;obtain⟨aap,Oz⟩:=iK Oq;subst Oz;obtain⟨aaq,OA⟩:=iK Ox;subst OA;have bSI:=B8 Oe Of Og;have bFI:=CZ Ol Om Oo;have bma:=CM Ou Ov Ow;have N:Dj mg:=⟨FH,m_int,Ll⟩;have cF:B5 K mg (ga K "Field"):=⟨⟨h89,h90,h91,cX h92⟩,aR h93,JE,(Bool.and_eq_true_iff.mpr h94),cX h95,cX h96,cE h97,cE h98⟩;have c:Fm K mg (ga K "Sum"):=⟨⟨h99,h100,h101,cX h102⟩,aR h103,aR h104,M0⟩;have hP:=tm h105;have RF:Refs K mg _ _ _ _:=⟨Gi,GF,Hn,HX,Hg,⟨h106,cX h107,aR h108,cX h109,cE h110,cE h111⟩,cE h112,cE h113,cE h114,cE h115,cE h116⟩;have VI:p3 K (ga K "NoWorth"):=⟨h122,cX h123,aR h124,cX h125,cE h126,cE h127⟩;have OB:findIn K (.ref (ga K "NoWorth")) "__setattr__"=some (some (.builtin "object.__setattr__")):=cX h128;have sNW:ze K (ga K "NoWorth"):=Hd.pE h121 VI OB;obtain⟨e_A,d_A⟩:=t7 ZW h133 h134;have S0:=Zo.symm.trans (m e_A)
 cases S0
 obtain⟨aax,aay,S5,OC,S7,Ta,Tb,VJ,l_A,c_A,_⟩:=d_A;refine⟨fnOf "law" "law" (bH gD) (bo gD) (ao gD) .none S5 OC S7 Ta (.ref (g9 K).1) Tb,λs v=>.of_eq rfl,λbase _ _ BT=>?_⟩;have Jb:=wV (P:=l.prog) (w:=w) (base:=base) RD N;have Tc:=rV (P:=l.prog) (w:=w) (base:=base) (mg:=mg) R0;have LD:=BK (P:=l.prog) (w:=w) (base:=base) RY Ke;have OD:=uI RZ LD Lm IU Ln;have Td:=qG SH cF F4 OD M9 Kg Na;have Tf:=y6 SD cF Td SI SJ;have Tg:=Ad SO cF F4 GG h118 OD M9 Kg Na Tc R7 Nb R8;have Ti:=Ao Ou cF GG h118 Tg SQ SR Jb IS Hr IT;have Tj:=zZ Ol cF Jb IS Hr IT F4 IQ hP HZ h117;have Tn:=pe SK cF F4 N FZ m_len LD Lm IU Ln Jb IS Hr IT;have To:=we RE GQ Jb IS Hr IT;have Tp:=qT RI FH FZ HQ IB To RG M3 RH;have Tq:=zu RL cF FH FZ m_len Tp RJ M4 RK Tn SM SN;have Tr:=qW (P:=l.prog) (w:=w) (base:=base) RS m_len;have Ts:=rL RO FH Gp F9 Tq RM M5 RN;have Tt:=Ar RU cF F7 Tf SE SG Tr RT M7;have Tu:=yu Oe c Tt RV M8 RX Ts RP M6 RQ;have MkS:L2.Mk K _ _:=⟨h137,Oc,SV,h138⟩;have MkF:L2.Mk K _ _:=⟨h139,Oi,SW,h140⟩;have OE:=vb (P:=l.prog) (w:=w) (base:=base) (CF:=ga K "Field") Sx c Gp;have Tv:=uM (P:=l.prog) (w:=w) (base:=base) (CF:=ga K "Field") Sy c;have OF:=Dk Nc Jb IS Hr IT GS GF h119;have Ku:=DE Ng LD Lm IU Ln;have OG:=C0 Nh c Ku Kh IV Ki OE Oa Ob;have VL:IK l.prog w K mg base "NoWorth" (ga K "NoWorth") Fv (gz (ga K "NoWorth") "product"):=Hd.BY HY h121 VI OB (B9 SS sNW (aR h129)) SU;have RW:rC l.prog w K mg base _ _:=⟨VL,aR h129,cE h130,Gi,HH,cE h131,cE h132⟩;have OH:=C1 Nk c cF IM VL OG Ni Lp Nj Ku Kh IV Ki OE Oa Ob Tv Sz SA Ti bma SY;have Kv:=Co Np m_len OF Nd Lo Nf;have OI:=zf (P:=l.prog) (w:=w) (base:=base) Nq m_len;have Hu:=zz (P:=l.prog) (w:=w) (base:=base) (mg:=mg) Nu;have Kw:=zV (P:=l.prog) (w:=w) (base:=base) Nv Ke m_int;have Kx:=zq Nw Kw Kl IX Km;have Kz:=xf Ny Kx Kn IY Ko;have OJ:=uW Nz Kx Kn IY Ko;have OK:=uF NC Hu Hs GH Ht;have KA:=uz NJ Hu Hs GH Ht Kw Kl IX Km;have OL:=xa NK FZ m_range Hu Hs GH Ht;have OM:=vd NO m_range Hu Hs GH Ht OL NL Lv NM KA Ks Ja Kt;have ON:=yH NR F7 m_len Kz Kq IZ Kr;have OO:=BN (P:=l.prog) (w:=w) (base:=base) NU m_len m_range;have OP:=Aa (P:=l.prog) (w:=w) (base:=base) (kk:=4) NY RF FH;have OQ:=zC N1 FH RW OH Nl Lq Nn;have OR:=De N4 c Kz Kq IZ Kr OJ NA Ls NB OQ N2 LA N3 MkS Tu bSI;have OS:=CU N7 (nE h120) m_len Hf m_repr FH Kv Kj IW Kk;have W:zx l.prog w K mg base _ _ _ _ _ (g9 K).1 (g9 K).2 _:={cF:=cF,MF:=MkF,FFI:=Tj,bFFI:=bFI,room:=⟨_,_,OI,Nr,Lr,Nt⟩,prime:=⟨_,_,OK,NG,Lu,NH⟩,take:=⟨_,_,Hu,Hs,GH,Ht⟩,number:=⟨_,_,KA,Ks,Ja,Kt⟩,prods:=⟨_,_,OO,NV,Ly,NX⟩,gather:=⟨_,_,ON,NS,Lx,NT⟩,terms:=⟨_,_,OM,NP,Lw,NQ⟩,sright:=⟨_,_,OR,N5,LB,N6⟩,cright:=⟨_,_,OS,N8,LC,N9⟩,kind:=⟨_,_,OP,NZ,Lz,N0⟩,cut:=⟨_,_,Kv,Kj,IW,Kk⟩,hd:=BT.hd _ (List.mem_singleton.mpr rfl),bm:=BT.bm,hS:=nE h120,m_max:=m_max,m_min:=m_min,m_len:=m_len,m_range:=m_range,m_int:=m_int,m_repr:=m_repr};exact A9 l_A c_A W
theorem vf {K:Frag}(o:rO K=dueK):(tabIn K "law").isSome=true/\(K.lookup (g9 K).2).isNone=true:=by
 obtain⟨o1,_⟩:=Prod.mk.inj (show(kj K,_)=(true,_) from o);unfold kj at o1;simp only[Bool.and_eq_true] at o1;obtain⟨_,_,_,_,_,_,_,_,g8⟩:=o1;unfold EF at g8;simp only[Bool.and_eq_true] at g8;obtain⟨_,_,_,_,_,_,_,h135,h136,_,_,_,_⟩:=g8;exact⟨h135,h136⟩
theorem EB {l:OpenLaw}{q:vQ}{loose:wk}{XP:(Str->Option Value)->Heap->Prop}{d:DefRec}(hn:l.most=some 63)(Mh:d.params.defaults=[])(hd:d.name="law")
 (hr:((PyProof.Rows.recsOf q).find? (λe=>e.name==("law":Str))).isSome=true):
 WalkO q loose XP wH l.row.toRowW d [] (λf vs=>PySem.call f vs):=by
 refine Hd.uO (n:=63) (k:=9) (x:="_law_script") (CX:=λw=>aS l.prog w) (sp:=λK=>ur K (g9 K).2) (φ:=λK=>rO K=dueK) (tabs:=λK=>[g9 K]) hn (by decide) Mh ⟨rfl,by decide,by decide,rfl⟩ (λw h y=>y) ?_ (λw K mg fa h o X G e=>qO o X G (by rw[<-hd];exact e)) ?_ ?_
 ·intro w s₀ mg mb h K o Gr KX;obtain⟨ht,hk⟩:=vf o
  have e:tabIn K "law"=some (g9 K):=by
   unfold g9
   cases q:tabIn K "law" with
   |none=>rw[q] at ht;cases ht
   |some v=>rfl
  obtain⟨dl,K2⟩:=Option.isSome_iff_exists.mp hr;have tb:=tab_of Gr.T KX K2 e;refine⟨λr Li=>?_,λr Li=>?_⟩
  ·have z:r=g9 K:=by simpa using Li
   subst z;exact tb
  ·have z:r=g9 K:=by simpa using Li
   subst z
   cases q:K.lookup (g9 K).2 with
   |none=>rfl
   |some v=>rw[q] at hk;cases hk
 ·intro K H a ns hl hO hS;refine⟨a,ns,rfl,?_,hl,⟨#[],hO.2 _ (List.mem_singleton.mpr rfl),True.intro,λpos _=>.inl rfl⟩,λ_=>rfl⟩
  rcases hS with(hS|⟨o,hS⟩)|hS
  ·rcases hO.1 a with z|⟨o,xs,z⟩|⟨z,_⟩
   ·rw[z] at hS;cases hS
   ·rw[z] at hS;cases hS
   ·rw[z] at hS;cases hS
  ·exact .inl ⟨o,hS⟩
  ·exact .inr hS
 ·intro w H s e s' z;obtain⟨a,cls,a0,B,d,H',_,_,_,_,hE⟩:=z;exact hE.elim
end K24
open PySem PySem.W PyProof.Rows
set_option maxRecDepth 100000 in
set_option maxHeartbeats 0 in
theorem PySem.Challenge.cw_falsesums_k24_worths_of_sums_holds : PySem.Challenge.rw_falsesums_k24_worths_of_sums.Holds := by
 refine PySem.W.holds_law (by kernel_rfl) λaaD=>?_
 refine PySem.W.holds_open (r:=PySem.Challenge.rw_falsesums_k24_worths_of_sums.row) (q:=K24.hX) (loose:=["Field","STEP"]) (Xt:=λs=>xlAt K24.hX K24.lv s&&recOk (PySem.Challenge.rw_falsesums_k24_worths_of_sums.row.toRowW).records s) (XP:=XL K24.hX K24.lv)
  (Yf:=λs=>K24.rO (Hd.ya K24.sk s.heap)) (Ya:=λ_=>K24.dueK) (YP:=K24.wH) (N:=9282) ?hl K24.Ap K24.qC (λs e=>xl_of s (Bool.and_eq_true_iff.mp e).1) XL.keeps (by rfl) (by rfl) (by rfl) (λs e=>recFacts_of (Bool.and_eq_true_iff.mp e).2) (by rfl) (by assumption) (by decide +kernel) ⟨rfl,rfl,rfl,rfl,rfl,by decide +kernel⟩ ?hw ?hc
 case hw=>w_witness2
 case hl=>exact Hd.abC K24.ran1 K24.ran3 K24.ran4
 case hc=>exact K24.EB rfl rfl rfl (by kernel_rfl)
