import PyProof.Rows.All
import KE.KLam
import KE.KTryMore
import KE.KPairComp
import KE.KSortTup
import KE.LcSums
import PySem.Challenge.RW_falsesums_k26_degrees_refused
set_option Elab.async false
set_option linter.all false
set_option maxRecDepth 100000
abbrev oP:=PySem.Value->PySem.Shared->Prop
abbrev yN:=PySem.Str->Option PySem.Value
abbrev Fp:=PySem.Shared
abbrev vH:=PySem.FuncData
abbrev zO:=PySem.Program
abbrev Ei:=Option PySem.Value
abbrev xF:=List PySem.Value
abbrev va:=Array PySem.Value
abbrev uH:=List PySem.Stmt
abbrev wW:=List PySem.Expr
abbrev nO:=List PySem.Str
abbrev zR:=Option PySem.Addr
abbrev Bp:=Array (Option PySem.Value)
abbrev uI:List PySem.Str:=["thing"]
abbrev zT:List PySem.Str:=["_law_room_here","_law_many"]
abbrev oo:List PySem.Str:=["one","other"]
abbrev ya:List PySem.Str:=["system","degree","thing"]
abbrev D1:List PySem.Str:=["_law_prime_here","_law_one","_law_other"]
abbrev DC:List PySem.Str:=["degree"]
abbrev FK:List PySem.Str:=["_law_room_here","_law_prime_here","_law_many","_law_most"]
abbrev qo:List PySem.Str:=["field","terms"]
abbrev vY:List PySem.Str:=["_law_prime_here","_law_top","_law_base"]
abbrev yj:List PySem.Str:=["_law_top","_law_base"]
abbrev Fv:List PySem.Str:=["_law_prime_here","_law_terms_here"]
abbrev pE:List PySem.Str:=["_law_prime_here","_law_terms_here","_law_filling_here"]
abbrev Ap:List PySem.Str:=["self","prime"]
abbrev yJ:List PySem.Str:=["self","top","bottom"]
abbrev wk:List PySem.Str:=["self","one","other"]
abbrev ub:List PySem.Str:=["_law_room_here","_law_prime_here"]
abbrev pJ:List PySem.Str:=["self","other"]
abbrev pP:List PySem.Str:=["field","thing"]
abbrev tj:List PySem.Str:=["self","field","terms"]
abbrev xV:List PySem.Str:=["worths","degree"]
abbrev ED:List PySem.Str:=["field","places","thing"]
abbrev DG:List PySem.Str:=["field","places","uppers"]
abbrev tE:List PySem.Str:=["self","field","places","noughts","uppers"]
abbrev tS:List PySem.Str:=["places","size"]
abbrev qx:List PySem.Str:=["totals","prime"]
abbrev pk:List PySem.Str:=["_law_thing"]
abbrev qe:List PySem.Str:=["_law_way","_law_system","_law_degree","_law_thing"]
abbrev BH:List PySem.Str:=["_law_way","_law_degree"]
abbrev wU:List PySem.Str:=["_law_room_here","_law_many","_law_share"]
abbrev tP:List PySem.Str:=["top","bottom"]
abbrev Dy:List PySem.Str:=["_law_script","_law_k"]
abbrev ui:List PySem.Str:=["_law_room_here"]
abbrev yL:List PySem.Str:=["self","thing"]
abbrev pz:List PySem.Str:=["field","places","part","wishes"]
abbrev Ci:List PySem.Str:=["places","size","ways"]
abbrev zV:List PySem.Str:=["system","thing","sided"]
abbrev Ez:List PySem.Str:=["system","degree","filling"]
abbrev BS:List PySem.Str:=["_law_room_here","_law_prime_here","_law_many","_law_most","_law_planted"]
abbrev Bh:List PySem.Str:=["_law_room_here","_law_many","_law_most","_law_planted"]
namespace L2
open PySem
theorem EV:(1:Nat)<=sizeLine:=by decide
theorem aab:(12:Nat)<=sizeLine:=by decide
theorem ic:(2:Nat)<=sizeLine:=by decide
theorem aav:(3:Nat)<=sizeLine:=by decide
theorem EO:(4:Nat)<=sizeLine:=by decide
theorem aac:(6:Nat)<=sizeLine:=by decide
noncomputable def bq (s:Stmt)(j:Nat):Stmt:=match s with
 | .ClassDef _ _ _ body _ _ _ _ _ _ _=>body.getD j (.Pass ⟨0,0,0,0⟩)
 |_=>.Pass ⟨0,0,0,0⟩
noncomputable def b9 (s:Stmt):Arguments:=match s with
 | .FunctionDef _ a _ _ _ _ _ _ _ _=>a
 |_=>{posonlyargs:=[],args:=[],vararg:=none,kwonlyargs:=[],kw_defaults:=[],kwarg:=none,defaults:=[]}
noncomputable def bF (s:Stmt):List Stmt:=match s with
 | .FunctionDef _ _ b _ _ _ _ _ _ _=>b
 |_=>[]
noncomputable def ak (s:Stmt):Scope:=match s with
 | .FunctionDef _ _ _ _ _ _ sc _ _ _=>sc
 |_=>{kind:=.function,names:=[],isGenerator:=false,isCoroutine:=false}
end L2
namespace Hd
open PySem PySem.W PyProof.Rows
noncomputable def sY (as:List Addr)(h:Heap):Frag:=as.filterMap λa=>(h.get? a).map λo=>(a,o)
theorem mY (h:Heap):∀as:List Addr,(sY as h).In h
 |[],a,o,e=>by cases e
 |b::as,a,o,e=>by
  unfold sY at e;rw[List.filterMap_cons] at e
  cases q:h.get? b with
  |none =>
   rw[q] at e;exact mY h as a o e
  |some u =>
   rw[q] at e;dsimp only[Option.map_some] at e;rw[List.lookup_cons] at e
   by_cases z:a=b
   ·subst z;simp only[beq_self_eq_true] at e;rw[q];exact e
   ·have:(a==b)=false:=by simpa using z
    simp only[this] at e;exact mY h as a o e
noncomputable abbrev tT:=Str×Str×Arguments×FuncBody×Scope×Addr×List (Str×Addr)×Value×Addr
noncomputable def xK (fd:vH):tT:=(fd.name,fd.qualname,fd.params,fd.body,fd.scope,fd.globals,fd.closure,fd.defaults,fd.builtins)
noncomputable def jG (K:Frag)(v:Option (Option Value)):Option FuncData:=match v with
 |some (some (.ref f))=>(match K.lookup f with
  |some ⟨_,_,.func fd,_⟩=>some fd
  |_=>none)
 |_=>none
noncomputable def aL (K:Frag)(v:Option (Option Value)):Option tT:=(jG K v).map xK
noncomputable def due (x qual:Str)(st:Stmt):Option tT:=some (x,qual,L2.b9 st,.stmts (L2.bF st),L2.ak st,mainGlobals,[],.none,builtinsNs)
noncomputable def c8 (v:Option (Option Value)):Addr:=match v with
 |some (some (.ref a))=>a
 |_=>0
noncomputable def en (v:Option (Option Value)):Bool:=match v with
 |some (some (.ref _))=>true
 |_=>false
variable {v:Option (Option Value)}
theorem cw (h:en v=true):v=some (some (.ref (c8 v))):=by
 unfold en at h
 split at h
 ·rfl
 ·cases h
noncomputable def de (v:Option (Option Value)):Bool:=match v with
 |some none=>true
 |_=>false
theorem bh (h:de v=true):v=some none:=by
 unfold de at h
 split at h
 ·rfl
 ·cases h
noncomputable def cB (K:Frag)(v:Option (Option Value))(qual:Str):Bool:=keepIn K (.ref (c8 v))&&(match jG K v with
 |some fd=>codeIn K fd.code qual
 |none=>false)
noncomputable abbrev gv (K:Frag)(x:Str):Option (Option Value):=nsIn K mainGlobals x
noncomputable abbrev ga (K:Frag)(x:Str):Addr:=c8 (nsIn K mainGlobals x)
noncomputable abbrev fv (K:Frag)(c x:Str):Option (Option Value):=findIn K (.ref (c8 (nsIn K mainGlobals c))) x
noncomputable def fW (K:Frag)(v:Option (Option Value)):Option tT:=(jG K v).map λfd=>xK {fd with defaults:=.none}
noncomputable def Dc (K:Frag)(v:Option (Option Value)):Value:=match jG K v with
 |some fd=>fd.defaults
 |none=>.none
noncomputable def lC (K:Frag)(v:Option (Option Value)):Addr:=match Dc K v with
 | .ref a=>a
 |_=>0
noncomputable def oK (K:Frag)(v:Option (Option Value)):Bool:=match Dc K v with
 | .ref _=>true
 |_=>false
noncomputable def w8 (K:Frag)(v:Option (Option Value))(c:Addr):Bool:=match jG K v with
 |some fd=>(match fd.code with
  | .ref a=>a==c
  |_=>false)
 |none=>false
noncomputable def ph (K:Frag)(T:Addr)(p:Value->Bool):Bool:=match K.lookup T with
 |some o=>(match o.data with
  | .seq a _=>(match a.toList with
    |[v]=>p v
    |_=>false)
  |_=>false)
 |none=>false
theorem gz {K:Frag}{T:Addr}{p:Value->Bool}(h:ph K T p=true):∃o v n,K.lookup T=some o/\o.data=.seq #[v] n/\p v=true:=by
 unfold ph at h
 split at h
 ·rename_i o ho
  split at h
  ·rename_i a n hd
   split at h
   ·rename_i v hv
    have:a = #[v]:=by rw[<-Array.toArray_toList (xs:=a),hv]
    subst this;exact⟨o,v,n,ho,hd,h⟩
   ·cases h
  ·cases h
 ·cases h
noncomputable def Ag (n:Int)(v:Value):Bool:=match v with
 | .int i _=>i==n
 |_=>false
theorem jK {n:Int}{v:Value}(h:Ag n v=true):∃t,v=.int n t:=by
 unfold Ag at h
 split at h
 ·rename_i i t
  have:i=n:=by simpa using h
  exact⟨t,by rw[this]⟩
 ·cases h
noncomputable def uE (v:Value):Bool:=match v with
 | .none=>true
 |_=>false
theorem jx {v:Value}(h:uE v=true):v=.none:=by
 unfold uE at h
 split at h
 ·rfl
 ·cases h
noncomputable def pq (v:Option (Option Value))(n:Int):Bool:=match v with
 |some (some u)=>Ag n u
 |_=>false
theorem gB {n:Int}(h:pq v n=true):∃t,v=some (some (.int n t)):=by
 unfold pq at h
 split at h
 ·obtain⟨t,rfl⟩:=jK h;exact⟨t,rfl⟩
 ·cases h
noncomputable def rj:List Value->List Int->Bool
 |[],[]=>true
 |v::vs,n::ns=>Ag n v&&rj vs ns
 |_,_=>false
noncomputable def vi (K:Frag)(a:Addr)(ns:List Int):Bool:=match K.lookup a with
 |some o=>(match o.cls with
  | .type T=>T == "tuple"
  |_=>false)&&(match o.data with
  | .seq its _=>rj its.toList ns&&decide (its.size<=sizeLine)
  |_=>false)
 |none=>false
noncomputable def vo (K:Frag):Bool:=match K.lookup sysModules with
 |some o=>(match o.cls with
  | .type T=>T == "dict"
  |_=>false)
 |none=>false
noncomputable def gY (v:Option (Option Value))(s:String):Bool:=match v with
 |some (some (.builtin t))=>t==s
 |_=>false
theorem cu {s:String}(h:gY v s=true):v=some (some (.builtin s)):=by
 unfold gY at h
 split at h
 ·rename_i t
  have:t=s:=by simpa using h
  rw[this]
 ·cases h
noncomputable def ir (v:Option Bool)(b:Bool):Bool:=match v with
 |some c=>c==b
 |none=>false
theorem b7 {v:Option Bool}{b:Bool}(h:ir v b=true):v=some b:=by
 unfold ir at h
 split at h
 ·rename_i c
  have:c=b:=by simpa using h
  rw[this]
 ·cases h
noncomputable def x8:List Obj->BT->Nat->Option BT
 |[],t,_=>some t
 |o::os,t,n=>match ((t.ins n o).get n).isSome with
  |true=>x8 os (t.ins n o) (n+1)
  |false=>none
theorem sC (life:Life):∀(os:List Obj)(t t':BT)(n:Nat),x8 os t n=some t'->(absHeap t' (n+os.length) life).objs=(absHeap t n life).objs++os.toArray
 |[],t,t',n,h=>by
  cases h
  simp
 |o::os,t,t',n,h=>by
  unfold x8 at h
  cases q:((t.ins n o).get n).isSome with
  |false=>rw[q] at h;cases h
  |true =>
   rw[q] at h;have e:=sC life os _ _ _ h;rw[absHeap_ins q] at e
   have:n+1+os.length=n+(o::os).length:=by simp only[List.length_cons];omega
   rw[this] at e;rw[e];show((absHeap t n life).objs.push o)++os.toArray=_;rw[<-Array.append_singleton,Array.append_assoc];simp
noncomputable def Do (s:Fp):Option SharedT:=(x8 s.heap.objs.toList .nil 0).map λt=>⟨t,s.heap.objs.size,s.heap.life,s.gens,s.drawn,s.toks,s.os⟩
theorem aaW {s:Fp}{x:SharedT}(h:Do s=some x):x.abs=s:=by
 unfold Do at h;obtain⟨t,e,rfl⟩:=Option.map_eq_some_iff.mp h;have g:=sC s.heap.life _ _ _ _ e;obtain⟨⟨objs,life⟩,gens,drawn,toks,os⟩:=s
 have z:absHeap t objs.size life=⟨objs,life⟩:=by
  have a:(absHeap t objs.size life).objs=objs:=by
   have l:0+objs.toList.length=objs.size:=by simp
   rw[l] at g;rw[g];simp[absHeap,BT.list]
  exact congrArg (Heap.mk · life) a
 show Shared.mk _ _ _ _ _=_;rw[z]
noncomputable def gA (tb:String->Option Builtin)(p:zO)(w:World)(n₀:Nat)(ann:Ei):Nat->SharedT->Thread->Option SharedT
 |0,_,_=>none
 |n+1,s,t=>match through t with
  |true=>some s
  |false=>match stepOk n₀ ann t with
   |false=>none
   |true=>match stepT (denote tb) p w s t with
    |some (s',t')=>gA tb p w n₀ ann n s' t'
    |none=>none
section
variable {tb:String->Option Builtin}{p:zO}{w:World}{n₀:Nat}{ann:Ei}
theorem jS:∀{n:Nat}{s s':SharedT}{t:Thread},gA tb p w n₀ ann n s t=some s'->topRun tb p w n₀ ann n s.abs t=some s'.abs
 |0,_,_,_,h=>by cases h
 |n+1,s,s',t,h=>by
  unfold gA at h;unfold topRun
  cases he:through t with
  |true=>rw[he] at h;cases h;rfl
  |false =>
   rw[he] at h
   cases hk:stepOk n₀ ann t with
   |false=>rw[hk] at h;cases h
   |true =>
    rw[hk] at h
    cases hs:stepT (denote tb) p w s t with
    |none=>rw[hs] at h;cases h
    |some r=>obtain⟨s₂,t₂⟩:=r;rw[hs] at h;rw[stepT_spec hs];exact jS h
end
noncomputable def gq (tb:String->Option Builtin)(p:zO)(w:World)(N:Nat)(s₀:Fp):Option SharedT :=
 match s₀.heap.isNs mainGlobals&&s₀.gens.size==0 with
 |true=>(Do s₀).bind λx=>(gA tb p w s₀.heap.objs.size (s₀.heap.nsMap mainGlobals "__annotations__") N x (topStub p)).bind λs₁=>match staticsOk (importedModules p.main.body) s₀.heap s₁.abs.heap&&namesBound p s₁.abs.heap&&gensDone s₁.abs&&laidKept s₀.heap s₁.abs.heap with
  |true=>some s₁
  |false=>none
 |false=>none
variable {p:zO}{N:Nat}
theorem aad {tb:String->Option Builtin}{w:World}{s:Fp}{y:SharedT}(h:gq tb p w N s=some y):topFrom tb p w N s=some y.abs:=by
 unfold gq at h;unfold topFrom
 cases q:(s.heap.isNs mainGlobals&&s.gens.size==0) with
 |false=>rw[q] at h;cases h
 |true =>
  rw[q] at h;obtain⟨x,ex,h⟩:=Option.bind_eq_some_iff.mp h;obtain⟨z,ez,h⟩:=Option.bind_eq_some_iff.mp h;have e:=jS ez;rw[aaW ex] at e;dsimp only;rw[e];show(match (staticsOk (importedModules p.main.body) s.heap z.abs.heap&&namesBound p z.abs.heap&&gensDone z.abs&&laidKept s.heap z.abs.heap) with|true=>some z.abs|false=>none)=_
  split at h
  ·cases h
   rename_i q2
   simp only[q2]
  ·cases h
noncomputable def cx (tb:String->Option Builtin)(p:zO)(w:World)(N:Nat):Option SharedT:=(fencedOpening tb p w N).bind (gq tb p w N)
theorem abm {tb:String->Option Builtin}{w:World}{y:SharedT}(h:cx tb p w N=some y):openEnds tb p w N=some y.abs:=by
 unfold cx at h;unfold openEnds;obtain⟨s,e,h⟩:=Option.bind_eq_some_iff.mp h;rw[e];exact aad h
theorem aa4 {q:zO}{loose:nO}{Xt:Shared->Bool}{α:Type}{Yf:Shared->α}{Ya:World->α}
 (h1:∀w,(cx treeTable p w N).map (λs=>openSeen q loose (importedModules p.main.body) Xt true s.abs)=some (openGood q loose))
 (h2:∀w,(cx treeTable p w N).map (λs=>Yf s.abs)=some (Ya w)):LeftO p q loose Xt Yf Ya N:=λw=>by
 obtain⟨y,e,z⟩:=Option.map_eq_some_iff.mp (h1 w);have z2:=h2 w;rw[e] at z2;rw[abm e];show some (_,_)=_;have z3:Yf y.abs=Ya w:=Option.some.inj z2;rw[z,z3]
section
variable {p q:zO}{loose mods:nO}{Xt:Shared->Bool}{α:Type}{Yf:Shared->α}{Ya:World->α}{N:Nat}
noncomputable abbrev xt (q:zO)(s:Fp):=(seen ((recsOf q).map (·.name)) (ownsOf q) [] {s with gens:=#[]},s.heap.bltView)
noncomputable abbrev u3 (q:zO)(loose mods:nO)(Xt:Shared->Bool)(s:Fp):Bool :=
 s.heap.keysOk (looseW q loose) ((recsOf q).map (·.name)) ((litsOf q).map (·.1)) ((clssOf q (looseW q loose)).map (·.name))&&s.heap.accountedOkI mods&&s.heap.isNs mainGlobals&&s.heap.isNs builtinsNs&&tablesOk q s.heap&&Xt s&&(if true then s.gens.size==0 else !leftWithCleanup s.gens)
noncomputable abbrev wm (q:zO)(loose:nO)(s:Fp):=(tabsOk q s,pinSeenD q (drecsOf q) s,plainSeenE q (looseW q loose) s,plainSeenD q loose s,wideSeen q s,clsSeenW q loose s)
theorem aaH
 (h1:∀w,(cx treeTable p w N).map (λs=>xt q s.abs)=some (expectedOf q,bltViewBooted))
 (h2:∀w,(cx treeTable p w N).map (λs=>u3 q loose (importedModules p.main.body) Xt s.abs)=some true)
 (h3:∀w,(cx treeTable p w N).map (λs=>wm q loose s.abs)=some (true,pinGoodD (drecsOf q),plainGoodE q (looseW q loose),plainGoodD q loose,wideGood q,clsGoodW q loose))
 (h4:∀w,(cx treeTable p w N).map (λs=>Yf s.abs)=some (Ya w)):LeftO p q loose Xt Yf Ya N:=by
 refine aa4 (λw=>?_) h4;obtain⟨y,e,z1⟩:=Option.map_eq_some_iff.mp (h1 w);have z2:=h2 w;have z3:=h3 w;rw[e] at z2 z3 |-;have z2:u3 q loose (importedModules p.main.body) Xt y.abs=true:=Option.some.inj z2;have z3:wm q loose y.abs=_:=Option.some.inj z3;show some (openSeen q loose (importedModules p.main.body) Xt true y.abs)=_;have e1:openSeen q loose (importedModules p.main.body) Xt true y.abs=((xt q y.abs).1,(xt q y.abs).2,u3 q loose (importedModules p.main.body) Xt y.abs,wm q loose y.abs):=rfl;rw[e1,z1,z2,z3];rfl
end
noncomputable def Bc (v:Value):Bool:=match v with
 | .bool false=>true
 |_=>false
theorem aaa {v:Value}(h:Bc v=true):v=.bool false:=by
 unfold Bc at h
 split at h
 ·rfl
 ·cases h
end Hd
namespace L2
open PySem
/-- an own class of exceptions without an __init__ -/
noncomputable def og (K:PySem.W.Frag)(C:Addr)(K3:xF)(newId:String):Bool :=
 ((K.lookup C).any λo=>o.cls == .type "type"&&(o.slots.size==6&&o.slots.toList[4]?==some (some (.builtin newId))))&&(PySem.W.clsIn K C).any λcd=>cd.mro.head?==some (.ref C)&&(!cd.hasDel&&(PySem.W.tailIn K K3 cd.mro.tail&&(PySem.W.nsOkIn K cd.ns&&PySem.W.nsIn K cd.ns "__init__"==some none)))
end L2
namespace K26
open PySem L2 PySem.W
open Hd (gv ga fv c8 en cw de bh gY cu ir b7 cB aL fW due oK lC ph gz uE jx Ag jK pq gB vi vo w8)
noncomputable def aJ (i:Nat):Stmt:=PySem.Challenge.pw_falsesums_k26_degrees_refused.main.body.getD i (.Pass ⟨0,0,0,0⟩)
noncomputable def Br:List Int:=[2,3,5,7,11,13,17,19,23,29,31,37,41,43,47,53,59,61,67,71,73,79,83,89,97]
noncomputable abbrev Bw:List Value:=[.type "ValueError",.type "Exception",.type "BaseException",.type "object"]
noncomputable abbrev tO:String:="ValueError.__new__"
noncomputable def gX (K:Frag):Addr×Addr:=(tabIn K "law").getD (0,0)
noncomputable def EH (K:Frag):Bool :=
 (de (gv K "isinstance") &&
 (de (gv K "int") &&
 (de (gv K "bool") &&
 (de (gv K "ValueError") &&
 (de (gv K "abs") &&
 (de (gv K "len") &&
 (de (gv K "tuple") &&
 (de (gv K "all") &&
 (de (gv K "zip") &&
 (de (gv K "list") &&
 (de (gv K "enumerate") &&
 (de (gv K "sorted") &&
 (de (gv K "max") &&
 (de (gv K "min") &&
 (de (gv K "range") &&
 (de (gv K "repr")))))))))))))))))
noncomputable def Fg (K:Frag):Bool :=
 (de (gv K "dict") &&
 (en (gv K "Sum") &&
 (en (gv K "Field") &&
 (en (gv K "System") &&
 (en (gv K "FalseError") &&
 (en (gv K "NoDegree") &&
 (en (gv K "NoFilling") &&
 (en (gv K "TooMany") &&
 (en (gv K "NoNumber") &&
 (en (gv K "NoField") &&
 (en (gv K "PRIMES") &&
 (pq (gv K "FRACTIONS") 0 &&
 (pq (gv K "MOST_PLACES") 60 &&
 (pq (gv K "MOST_DEGREE") 300 &&
 (pq (gv K "MOST_WISHES") 200 &&
 (cB K (gv K "is_whole") "is_whole"))))))))))))))))
noncomputable def EX (K:Frag):Bool :=
 (cB K (gv K "is_place") "is_place" &&
 (cB K (gv K "is_product") "is_product" &&
 (cB K (gv K "is_term") "is_term" &&
 (cB K (gv K "checked_terms") "checked_terms" &&
 (cB K (gv K "place_of_term") "place_of_term" &&
 (cB K (gv K "gathered") "gathered" &&
 (cB K (gv K "common_divisor") "common_divisor" &&
 (cB K (gv K "lowest") "lowest" &&
 (cB K (gv K "checked_degree") "checked_degree" &&
 (cB K (gv K "common_bottom") "common_bottom" &&
 (cB K (gv K "bottom_of") "bottom_of" &&
 (cB K (gv K "cut") "cut" &&
 (cB K (gv K "is_row_of_bits") "is_row_of_bits" &&
 (cB K (gv K "many_products") "many_products" &&
 (cB K (gv K "many_choices") "many_choices" &&
 (cB K (gv K "are_numbered_products") "are_numbered_products"))))))))))))))))
noncomputable def E8 (K:Frag):Bool :=
 (cB K (gv K "lets_worths") "lets_worths" &&
 (cB K (gv K "worths_of") "worths_of" &&
 (cB K (gv K "are_multipliers") "are_multipliers" &&
 (cB K (gv K "multiplied_out") "multiplied_out" &&
 (cB K (gv K "without_noughts") "without_noughts" &&
 (cB K (gv K "lets_showing") "lets_showing" &&
 (cB K (gv K "is_wish") "is_wish" &&
 (cB K (gv K "checked_wishes") "checked_wishes" &&
 (cB K (gv K "checked_uppers") "checked_uppers" &&
 (cB K (gv K "_law_room") "_law_room" &&
 (cB K (gv K "_law_take") "_law_take" &&
 (cB K (gv K "_law_lowest") "_law_lowest" &&
 (cB K (gv K "_law_make") "_law_make" &&
 (cB K (gv K "_law_plus") "_law_plus" &&
 (cB K (gv K "_law_times") "_law_times" &&
 (cB K (gv K "_law_prime") "_law_prime"))))))))))))))))
noncomputable def Fk (K:Frag):Bool :=
 (cB K (gv K "_law_number") "_law_number" &&
 (cB K (gv K "_law_product") "_law_product" &&
 (cB K (gv K "_law_terms") "_law_terms" &&
 (cB K (gv K "_law_gather") "_law_gather" &&
 (cB K (gv K "_law_worth") "_law_worth" &&
 (cB K (gv K "_law_filling") "_law_filling" &&
 (cB K (gv K "_law_whole") "_law_whole" &&
 (cB K (gv K "_law_wish") "_law_wish" &&
 (cB K (gv K "_law_upper") "_law_upper" &&
 (cB K (gv K "_law_wishes") "_law_wishes" &&
 (cB K (gv K "_law_kind") "_law_kind" &&
 (cB K (gv K "_law_asked") "_law_asked" &&
 (cB K (gv K "_law_due") "_law_due" &&
 (cB K (fv K "Sum" "field") "Sum.field" &&
 (isFn K (.ref (c8 (fv K "Sum" "field"))) &&
 (cB K (fv K "Sum" "reach") "Sum.reach"))))))))))))))))
noncomputable def Ff (K:Frag):Bool :=
 (isFn K (.ref (c8 (fv K "Sum" "reach"))) &&
 (cB K (fv K "Field" "__eq__") "Field.__eq__" &&
 (isFn K (.ref (c8 (fv K "Field" "__eq__"))) &&
 (cB K (fv K "Field" "plus") "Field.plus" &&
 (isFn K (.ref (c8 (fv K "Field" "plus"))) &&
 (cB K (fv K "Field" "settled") "Field.settled" &&
 (isFn K (.ref (c8 (fv K "Field" "settled"))) &&
 (cB K (fv K "Field" "is_number") "Field.is_number" &&
 (isFn K (.ref (c8 (fv K "Field" "is_number"))) &&
 (cB K (fv K "Field" "prime") "Field.prime" &&
 (isFn K (.ref (c8 (fv K "Field" "prime"))) &&
 (cB K (fv K "System" "field") "System.field" &&
 (isFn K (.ref (c8 (fv K "System" "field"))) &&
 (cB K (fv K "System" "places") "System.places" &&
 (isFn K (.ref (c8 (fv K "System" "places"))) &&
 (cB K (fv K "System" "noughts") "System.noughts"))))))))))))))))
noncomputable def EY (K:Frag):Bool :=
 (isFn K (.ref (c8 (fv K "System" "noughts"))) &&
 (cB K (fv K "Sum" "__init__") "Sum.__init__" &&
 (isFn K (.ref (c8 (fv K "Sum" "__init__"))) &&
 (oK K (fv K "Sum" "__init__") &&
 (ph K (lC K (fv K "Sum" "__init__")) (uE) &&
 (cB K (fv K "Field" "__init__") "Field.__init__" &&
 (isFn K (.ref (c8 (fv K "Field" "__init__"))) &&
 (oK K (fv K "Field" "__init__") &&
 (ph K (lC K (fv K "Field" "__init__")) (Ag 0) &&
 (cB K (fv K "System" "__init__") "System.__init__" &&
 (isFn K (.ref (c8 (fv K "System" "__init__"))) &&
 (oK K (fv K "System" "__init__") &&
 (ph K (lC K (fv K "System" "__init__")) (uE) &&
 (cB K (gv K "is_filling") "is_filling" &&
 (oK K (gv K "is_filling") &&
 (ph K (lC K (gv K "is_filling")) (Hd.Bc)))))))))))))))))
noncomputable def ES (K:Frag):Bool :=
 (plainGet K (ga K "Field") Str.empty &&
 (hasDictIn K (ga K "Field") &&
 (plainOver K (ga K "Field") &&
 (gY (fv K "Field" "__setattr__") "object.__setattr__" &&
 (de (fv K "Field" "its_prime") &&
 (((clsIn K (ga K "Field")).isSome&&typeIn K (.ref (ga K "Field"))==some (.type "type")) &&
 (gY (fv K "Field" "__class__") "object.__class__" &&
 (gY (specialIn K (.builtin "object.__class__") "__get__") "getset_descriptor.__get__" &&
 (ir (takesIn K (.builtin "object.__class__")) true &&
 (ir (mroIn K (ga K "Field") (.type "object")) true &&
 (plainGet K (ga K "Sum") Str.empty &&
 (hasDictIn K (ga K "Sum") &&
 (plainOver K (ga K "Sum") &&
 (gY (fv K "Sum" "__setattr__") "object.__setattr__" &&
 (de (fv K "Sum" "its_field") &&
 (de (fv K "Sum" "its_terms")))))))))))))))))
noncomputable def Fd (K:Frag):Bool :=
 (((clsIn K (ga K "Sum")).isSome&&typeIn K (.ref (ga K "Sum"))==some (.type "type")) &&
 (gY (fv K "Sum" "__class__") "object.__class__" &&
 (ir (mroIn K (ga K "Sum") (.type "object")) true &&
 (plainGet K (ga K "System") Str.empty &&
 (hasDictIn K (ga K "System") &&
 (plainOver K (ga K "System") &&
 (gY (fv K "System" "__setattr__") "object.__setattr__" &&
 (de (fv K "System" "its_field") &&
 (de (fv K "System" "its_places") &&
 (de (fv K "System" "its_noughts") &&
 (de (fv K "System" "its_uppers") &&
 (((clsIn K (ga K "System")).isSome&&typeIn K (.ref (ga K "System"))==some (.type "type")) &&
 (gY (fv K "System" "__class__") "object.__class__" &&
 (ir (mroIn K (ga K "System") (.type "object")) true &&
 (vi K (ga K "PRIMES") Br &&
 ((clsIn K (ga K "NoDegree")).isSome))))))))))))))))
noncomputable def EI (K:Frag):Bool :=
 (gY (fv K "NoDegree" "__getattribute__") "BaseException.__getattribute__" &&
 (de (fv K "NoDegree" "__getattr__") &&
 (gY (fv K "NoDegree" "__class__") "object.__class__" &&
 (ir (mroIn K (ga K "NoDegree") (.type "object")) true &&
 (ir (mroIn K (ga K "NoDegree") (.type "BaseException")) true &&
 ((clsIn K (ga K "NoFilling")).isSome &&
 (gY (fv K "NoFilling" "__getattribute__") "BaseException.__getattribute__" &&
 (de (fv K "NoFilling" "__getattr__") &&
 (gY (fv K "NoFilling" "__class__") "object.__class__" &&
 (ir (mroIn K (ga K "NoFilling") (.type "object")) true &&
 (ir (mroIn K (ga K "NoFilling") (.type "BaseException")) true &&
 (ir (exmOne K (.ref (ga K "NoDegree")) (.ref (ga K "FalseError"))) true &&
 (ir (exmOne K (.ref (ga K "NoFilling")) (.ref (ga K "FalseError"))) true &&
 (ir (kitOne K (.ref (ga K "NoDegree")) (.ref (ga K "NoDegree"))) true &&
 (ir (kitOne K (.ref (ga K "NoDegree")) (.ref (ga K "NoFilling"))) false &&
 (ir (kitOne K (.ref (ga K "NoDegree")) (.ref (ga K "TooMany"))) false))))))))))))))))
noncomputable def AX (K:Frag):Bool :=
 (ir (kitOne K (.ref (ga K "NoDegree")) (.type "ValueError")) true &&
 (ir (kitOne K (.ref (ga K "NoFilling")) (.ref (ga K "NoDegree"))) false &&
 (ir (kitOne K (.ref (ga K "NoFilling")) (.ref (ga K "NoFilling"))) true &&
 (ir (kitOne K (.ref (ga K "NoFilling")) (.ref (ga K "TooMany"))) false &&
 (ir (kitOne K (.ref (ga K "NoFilling")) (.type "ValueError")) true &&
 (og K (ga K "NoField") Bw tO &&
 (og K (ga K "NoDegree") Bw tO &&
 (og K (ga K "NoFilling") Bw tO &&
 (vo K &&
 (cB K (gv K "law") "law" &&
 (w8 K (gv K "law") (gX K).1 &&
 ((tabIn K "law").isSome &&
 ((K.lookup (gX K).2).isNone &&
 (makesIn K (ga K "Sum") &&
 (keepIn K (.ref (ga K "Sum")) &&
 (makesIn K (ga K "Field")))))))))))))))))
noncomputable def CU (K:Frag):Bool :=
 (keepIn K (.ref (ga K "Field")) &&
 (makesIn K (ga K "System") &&
 (keepIn K (.ref (ga K "System")))))
noncomputable def jO (K:Frag):Bool:=EH K&&(Fg K&&(EX K&&(E8 K&&(Fk K&&(Ff K&&(EY K&&(ES K&&(Fd K&&(EI K&&(AX K&&(CU K)))))))))))
noncomputable def oM (K:Frag):Bool×List (Option Hd.tT):=(jO K,[aL K (gv K "is_whole"),aL K (gv K "is_place"),aL K (gv K "is_product"),aL K (gv K "is_term"),aL K (gv K "checked_terms"),aL K (gv K "place_of_term"),aL K (gv K "gathered"),aL K (gv K "common_divisor"),aL K (gv K "lowest"),aL K (gv K "checked_degree"),aL K (gv K "common_bottom"),aL K (gv K "bottom_of"),aL K (gv K "cut"),aL K (gv K "is_row_of_bits"),aL K (gv K "many_products"),aL K (gv K "many_choices"),aL K (gv K "are_numbered_products"),aL K (gv K "lets_worths"),aL K (gv K "worths_of"),aL K (gv K "are_multipliers"),aL K (gv K "multiplied_out"),aL K (gv K "without_noughts"),aL K (gv K "lets_showing"),aL K (gv K "is_wish"),aL K (gv K "checked_wishes"),aL K (gv K "checked_uppers"),aL K (gv K "_law_room"),aL K (gv K "_law_take"),aL K (gv K "_law_lowest"),aL K (gv K "_law_make"),aL K (gv K "_law_plus"),aL K (gv K "_law_times"),aL K (gv K "_law_prime"),aL K (gv K "_law_number"),aL K (gv K "_law_product"),aL K (gv K "_law_terms"),aL K (gv K "_law_gather"),aL K (gv K "_law_worth"),aL K (gv K "_law_filling"),aL K (gv K "_law_whole"),aL K (gv K "_law_wish"),aL K (gv K "_law_upper"),aL K (gv K "_law_wishes"),aL K (gv K "_law_kind"),aL K (gv K "_law_asked"),aL K (gv K "_law_due"),aL K (fv K "Sum" "field"),aL K (fv K "Sum" "reach"),aL K (fv K "Field" "__eq__"),aL K (fv K "Field" "plus"),aL K (fv K "Field" "settled"),aL K (fv K "Field" "is_number"),aL K (fv K "Field" "prime"),aL K (fv K "System" "field"),aL K (fv K "System" "places"),aL K (fv K "System" "noughts"),fW K (fv K "Sum" "__init__"),fW K (fv K "Field" "__init__"),fW K (fv K "System" "__init__"),fW K (gv K "is_filling"),aL K (gv K "law")])
noncomputable def qM:Bool×List (Option Hd.tT):=(true,[due "is_whole" "is_whole" ((aJ 13)),due "is_place" "is_place" ((aJ 14)),due "is_product" "is_product" ((aJ 15)),due "is_term" "is_term" ((aJ 47)),due "checked_terms" "checked_terms" ((aJ 48)),due "place_of_term" "place_of_term" ((aJ 49)),due "gathered" "gathered" ((aJ 50)),due "common_divisor" "common_divisor" ((aJ 26)),due "lowest" "lowest" ((aJ 27)),due "checked_degree" "checked_degree" ((aJ 19)),due "common_bottom" "common_bottom" ((aJ 28)),due "bottom_of" "bottom_of" ((aJ 35)),due "cut" "cut" ((aJ 69)),due "is_row_of_bits" "is_row_of_bits" ((aJ 16)),due "many_products" "many_products" ((aJ 20)),due "many_choices" "many_choices" ((aJ 21)),due "are_numbered_products" "are_numbered_products" ((aJ 65)),due "lets_worths" "lets_worths" ((aJ 68)),due "worths_of" "worths_of" ((aJ 70)),due "are_multipliers" "are_multipliers" ((aJ 63)),due "multiplied_out" "multiplied_out" ((aJ 37)),due "without_noughts" "without_noughts" ((aJ 38)),due "lets_showing" "lets_showing" ((aJ 64)),due "is_wish" "is_wish" ((aJ 57)),due "checked_wishes" "checked_wishes" ((aJ 58)),due "checked_uppers" "checked_uppers" ((aJ 59)),due "_law_room" "_law_room" ((aJ 72)),due "_law_take" "_law_take" ((aJ 73)),due "_law_lowest" "_law_lowest" ((aJ 74)),due "_law_make" "_law_make" ((aJ 75)),due "_law_plus" "_law_plus" ((aJ 76)),due "_law_times" "_law_times" ((aJ 77)),due "_law_prime" "_law_prime" ((aJ 78)),due "_law_number" "_law_number" ((aJ 79)),due "_law_product" "_law_product" ((aJ 80)),due "_law_terms" "_law_terms" ((aJ 81)),due "_law_gather" "_law_gather" ((aJ 82)),due "_law_worth" "_law_worth" ((aJ 83)),due "_law_filling" "_law_filling" ((aJ 84)),due "_law_whole" "_law_whole" ((aJ 85)),due "_law_wish" "_law_wish" ((aJ 86)),due "_law_upper" "_law_upper" ((aJ 87)),due "_law_wishes" "_law_wishes" ((aJ 88)),due "_law_kind" "_law_kind" ((aJ 89)),due "_law_asked" "_law_asked" ((aJ 90)),due "_law_due" "_law_due" ((aJ 91)),due "field" "Sum.field" (bq (aJ 53) 5),due "reach" "Sum.reach" (bq (aJ 53) 8),due "__eq__" "Field.__eq__" (bq (aJ 30) 1),due "plus" "Field.plus" (bq (aJ 30) 6),due "settled" "Field.settled" (bq (aJ 30) 10),due "is_number" "Field.is_number" (bq (aJ 30) 11),due "prime" "Field.prime" (bq (aJ 30) 3),due "field" "System.field" (bq (aJ 60) 3),due "places" "System.places" (bq (aJ 60) 4),due "noughts" "System.noughts" (bq (aJ 60) 5),due "__init__" "Sum.__init__" (bq (aJ 53) 0),due "__init__" "Field.__init__" (bq (aJ 30) 0),due "__init__" "System.__init__" (bq (aJ 60) 0),due "is_filling" "is_filling" ((aJ 32)),due "law" "law" ((aJ 92))])
noncomputable def qk:List Addr:=[1,3,30,31,43,44,79,80,91,92,104,138,139,141,142,150,151,157,158,162,163,167,168,174,175,181,182,188,189,195,201,202,208,209,215,216,231,237,238,244,245,258,259,280,281,308,309,315,316,318,319,324,328,329,340,341,350,351,355,356,388,389,395,396,402,403,407,408,428,434,435,469,470,488,489,536,537,554,555,561,562,568,569,577,583,584,604,605,611,612,618,619,640,641,649,650,656,657,663,664,678,679,683,684,688,689,695,696,702,703,709,710,714,715,721,722,728,729,735,736,742,743,747,748,754,755,759,760,764,765,769,770,776,777,783,784,788,789,793,794,800,801,807,808,814,815,819,820]
noncomputable def cO:Program:={PySem.Challenge.pw_falsesums_k26_degrees_refused with main:={PySem.Challenge.pw_falsesums_k26_degrees_refused.main with body:=[aJ 0,aJ 2,aJ 3,aJ 4,aJ 5,aJ 6,aJ 7,aJ 8,aJ 9,aJ 10,aJ 12,aJ 13,aJ 14,aJ 15,aJ 16,aJ 18,aJ 19,aJ 20,aJ 21,aJ 22,aJ 24,aJ 25,aJ 26,aJ 27,aJ 28,aJ 29,aJ 30,aJ 34,aJ 35,aJ 36,aJ 37,aJ 38,aJ 40,aJ 41,aJ 42,aJ 43,aJ 44,aJ 45,aJ 47,aJ 48,aJ 49,aJ 50,aJ 51,aJ 52,aJ 53,aJ 54,aJ 56,aJ 57,aJ 58,aJ 59,aJ 60,aJ 62,aJ 63,aJ 64,aJ 65,aJ 66,aJ 67,aJ 68,aJ 69,aJ 70,aJ 72,aJ 73,aJ 74,aJ 75,aJ 76,aJ 77,aJ 78,aJ 79,aJ 80,aJ 81,aJ 82,aJ 83,aJ 84,aJ 85,aJ 86,aJ 87,aJ 88,aJ 89,aJ 90,aJ 91,aJ 92]} }
noncomputable def lv:List (PySem.Str×WData):=[("STEP",.int 10000000000000000000000000000000000000000000000000000000000000000)]
end K26
namespace Hd
open PySem PySem.W PyProof.Rows
noncomputable def bare (p:zO)(w:World)(N:Nat):Option (Heap×SharedT):=(fencedOpening treeTable p w N).bind λs₀=>match s₀.heap.isNs mainGlobals&&s₀.gens.size==0 with
 |true=>(Do s₀).bind λx=>(gA treeTable p w s₀.heap.objs.size (s₀.heap.nsMap mainGlobals "__annotations__") N x (topStub p)).map λs₁=>(s₀.heap,s₁)
 |false=>none
theorem aah {p:zO}{w:World}{N:Nat}{h:Heap}{s:SharedT}(e:bare p w N=some (h,s))(c1:staticsOk (importedModules p.main.body) h s.abs.heap=true)(c2:namesBound p s.abs.heap=true)(c3:gensDone s.abs=true)(c4:laidKept h s.abs.heap=true):cx treeTable p w N=some s:=by
 unfold bare at e;obtain⟨s0,e0,e⟩:=Option.bind_eq_some_iff.mp e;unfold cx;rw[e0];show gq treeTable p w N s0=some s;unfold gq
 cases q:(s0.heap.isNs mainGlobals&&s0.gens.size==0) with
 |false=>rw[q] at e;cases e
 |true =>
  rw[q] at e;obtain⟨x,ex,e⟩:=Option.bind_eq_some_iff.mp e;obtain⟨s1,e1,e2⟩:=Option.map_eq_some_iff.mp e
  cases e2
  dsimp only;rw[ex];show Option.bind (gA _ _ _ _ _ _ _ _) _=_;rw[e1];show(match staticsOk (importedModules p.main.body) s0.heap s.abs.heap&&namesBound p s.abs.heap&&gensDone s.abs&&laidKept s0.heap s.abs.heap with|true=>some s|false=>none)=_;rw[c1,c2,c3,c4];rfl
noncomputable def AM (s:SharedT)(a:Addr):Option Obj:=match Nat.blt a s.n with
 |true=>alive ((s.tree.get a).getD default)
 |false=>none
theorem Fun (s:SharedT)(a:Addr):s.abs.heap.get? a=AM s a:=by
 obtain⟨t,n,life,gens,drawn,toks,os⟩:=s;show(absHeap t n life).get? a=_;unfold AM
 cases h:Nat.blt a n with
 |true =>
  have lt:a<n:=Nat.le_of_ble_eq_true h;unfold Heap.get?;rw[absHeap_at,if_pos lt];generalize (t.get a).getD default=o;obtain⟨c,d,dt,sl⟩:=o
  cases dt <;> rfl
 |false =>
  refine abs_get_none λz=>?_;have:Nat.blt a n=true:=Nat.ble_eq_true_of_le z;rw[this] at h
  cases h
noncomputable def xq (as:List Addr)(s:SharedT):Frag:=as.filterMap λa=>(AM s a).map λo=>(a,o)
theorem aa5 (as:List Addr)(s:SharedT):sY as s.abs.heap=xq as s:=by
 unfold sY xq;congr 1
 funext a
 rw[Fun]
section
variable {p q:zO}{loose:nO}{Xt:Shared->Bool}{α:Type}{Yf:Shared->α}{Ya:World->α}{N:Nat}
theorem abi (key:∀w,∃h s,bare p w N=some (h,s)/\staticsOk (importedModules p.main.body) h s.abs.heap=true/\(namesBound p s.abs.heap=true/\gensDone s.abs=true/\laidKept h s.abs.heap=true) /\
 (((recsOf q).take 45).map (·.name)).map (s.abs.heap.shapeAt mainGlobals)=((recsOf q).take 45).map (λd=>some d.shape)/\(((recsOf q).drop 45).map (·.name)).map (s.abs.heap.shapeAt mainGlobals)=((recsOf q).drop 45).map (λd=>some d.shape) /\
 ((ownsOf q).all (λo=>s.abs.heap.ownExcOk o.name o.chain o.bm o.newId&&s.abs.heap.quietOk o.name),s.abs.heap.isNs mainGlobals,s.abs.heap.isNs builtinsNs,s.abs.heap.noLimitOk&&s.abs.heap.noDigitsOk)=(true,true,true,true)/\s.abs.heap.bltView=bltViewBooted /\
 s.abs.heap.keysOk (looseW q loose) ((recsOf q).map (·.name)) ((litsOf q).map (·.1)) ((clssOf q (looseW q loose)).map (·.name))=true /\
 (s.abs.heap.accountedOkI (importedModules p.main.body)&&s.abs.heap.isNs mainGlobals&&s.abs.heap.isNs builtinsNs&&tablesOk q s.abs.heap)=true/\(Xt s.abs&&(if true then s.abs.gens.size==0 else !leftWithCleanup s.abs.gens))=true /\
 ((recsOf q).take 45).all (λd=>s.abs.heap.tab0Ok d.name)=true/\((recsOf q).drop 45).all (λd=>s.abs.heap.tab0Ok d.name)=true/\(s.abs.heap.bmainOk&&valsOk q s.abs.heap&&(!importsNone q || s.abs.heap.noSeerOk))=true/\pinSeenD q (drecsOf q) s.abs=pinGoodD (drecsOf q)/\plainSeenE q (looseW q loose) s.abs=plainGoodE q (looseW q loose)/\plainSeenD q loose s.abs=plainGoodD q loose/\wideSeen q s.abs=wideGood q/\clsSeenW q loose s.abs=clsGoodW q loose/\Yf s.abs=Ya w):LeftO p q loose Xt Yf Ya N:=by
 refine aaH (λw=>?_) (λw=>?_) (λw=>?_) (λw=>?_)
 all_goals
  obtain⟨h,s,e,c1,⟨c2,c3,c4⟩,a1,a3,a4,a2,b1,b2,b3,d1,d7,d8,d2,d3,d4,d5,d6,y⟩:=key w;rw[aah e c1 c2 c3 c4];refine congrArg some ?_
 ·have a5:(((recsOf q).map (·.name)).map (s.abs.heap.shapeAt mainGlobals))=(recsOf q).map (λd=>some d.shape):=by
   conv=>lhs;rw[<-List.take_append_drop 45 (recsOf q)]
   conv=>rhs;rw[<-List.take_append_drop 45 (recsOf q)]
   rw[List.map_append,List.map_append,List.map_append,a1,a3]
  injection a4 with x1 a4
  injection a4 with x2 a4
  injection a4 with x3 x4
  show((⟨_,_,_,_,_,_,_⟩:Seen),_)=_;rw[a5,a2,x1,x2,x3,x4];rfl
 ·obtain⟨b2,x4⟩:=Bool.and_eq_true_iff.mp b2;obtain⟨b2,x3⟩:=Bool.and_eq_true_iff.mp b2;obtain⟨x1,x2⟩:=Bool.and_eq_true_iff.mp b2;obtain⟨x5,x6⟩:=Bool.and_eq_true_iff.mp b3;show(s.abs.heap.keysOk _ _ _ _&&s.abs.heap.accountedOkI _&&s.abs.heap.isNs mainGlobals&&s.abs.heap.isNs builtinsNs&&tablesOk q s.abs.heap&&Xt s.abs&&_)=true;rw[b1,x1,x2,x3,x4,x5,x6];rfl
 ·have t:tabsOk q s.abs=true:=by
   obtain⟨d8,x3⟩:=Bool.and_eq_true_iff.mp d8;obtain⟨x1,x2⟩:=Bool.and_eq_true_iff.mp d8
   have e1:(recsOf q).all (λd=>s.abs.heap.tab0Ok d.name)=true:=by
    rw[<-List.take_append_drop 45 (recsOf q),List.all_append,d1,d7];rfl
   unfold tabsOk;rw[e1,x1,x2,x3];rfl
  show(_,_,_,_,_,_)=_;rw[t,d2,d3,d4,d5,d6]
 ·exact y
theorem at_ {α β:Type}{x:Option α}{f:α->β}{v:β}{y:α}(h:x.map f=some v)(e:x=some y):f y=v:=by
 rw[e] at h;exact Option.some.inj h
end
end Hd
section
open PySem PySem.W PyProof.Rows
set_option maxRecDepth 100000 in
set_option maxHeartbeats 0 in
theorem K26.sd1:PySem.Challenge.rw_falsesums_k26_degrees_refused.wellSaid=true:=by kernel_rfl
set_option maxRecDepth 100000 in
set_option maxHeartbeats 0 in
theorem K26.sd3:PySem.Challenge.rw_falsesums_k26_degrees_refused.row.prog.bare:=⟨rfl,rfl,rfl,rfl,rfl,by decide +kernel⟩
set_option maxRecDepth 100000 in
set_option maxHeartbeats 0 in
theorem K26.ran0:∀w,(Hd.bare PySem.Challenge.rw_falsesums_k26_degrees_refused.row.prog w 11600).map (λs=>(staticsOk (importedModules PySem.Challenge.rw_falsesums_k26_degrees_refused.row.prog.main.body) s.1 s.2.abs.heap,(namesBound PySem.Challenge.rw_falsesums_k26_degrees_refused.row.prog s.2.abs.heap,gensDone s.2.abs,laidKept s.1 s.2.abs.heap),(s.2.abs.heap.accountedOkI (importedModules PySem.Challenge.rw_falsesums_k26_degrees_refused.row.prog.main.body)&&s.2.abs.heap.isNs mainGlobals&&s.2.abs.heap.isNs builtinsNs&&tablesOk K26.cO s.2.abs.heap),((λs=>xlAt K26.cO K26.lv s&&recOk (PySem.Challenge.rw_falsesums_k26_degrees_refused.row.toRowW).records s) s.2.abs&&(if true then s.2.abs.gens.size==0 else !leftWithCleanup s.2.abs.gens))))=some (true,(true,true,true),true,true):=by
 intro w;kernel_rfl
set_option maxRecDepth 100000 in
set_option maxHeartbeats 0 in
theorem K26.ran1:∀w,(Hd.bare PySem.Challenge.rw_falsesums_k26_degrees_refused.row.prog w 11600).map (λs=>((((recsOf K26.cO).take 45).map (·.name)).map (s.2.abs.heap.shapeAt mainGlobals),((recsOf K26.cO).take 45).all (λd=>s.2.abs.heap.tab0Ok d.name)))=some (((recsOf K26.cO).take 45).map (λd=>some d.shape),true):=by
 intro w;kernel_rfl
set_option maxRecDepth 100000 in
set_option maxHeartbeats 0 in
theorem K26.ran2:∀w,(Hd.bare PySem.Challenge.rw_falsesums_k26_degrees_refused.row.prog w 11600).map (λs=>((((recsOf K26.cO).drop 45).map (·.name)).map (s.2.abs.heap.shapeAt mainGlobals),((recsOf K26.cO).drop 45).all (λd=>s.2.abs.heap.tab0Ok d.name)))=some (((recsOf K26.cO).drop 45).map (λd=>some d.shape),true):=by
 intro w;kernel_rfl
set_option maxRecDepth 100000 in
set_option maxHeartbeats 0 in
theorem K26.ran3:∀w,(Hd.bare PySem.Challenge.rw_falsesums_k26_degrees_refused.row.prog w 11600).map (λs=>s.2.abs.heap.keysOk (looseW K26.cO ["Field","is_filling","STEP"]) ((recsOf K26.cO).map (·.name)) ((litsOf K26.cO).map (·.1)) ((clssOf K26.cO (looseW K26.cO ["Field","is_filling","STEP"])).map (·.name)))=some (true):=by
 intro w;kernel_rfl
set_option maxRecDepth 100000 in
set_option maxHeartbeats 0 in
theorem K26.ran4:∀w,(Hd.bare PySem.Challenge.rw_falsesums_k26_degrees_refused.row.prog w 11600).map (λs=>(pinSeenD K26.cO (drecsOf K26.cO) s.2.abs,K26.oM (Hd.xq K26.qk s.2)))=some (pinGoodD (drecsOf K26.cO),K26.qM):=by
 intro w;kernel_rfl
set_option maxRecDepth 100000 in
set_option maxHeartbeats 0 in
theorem K26.ran5:∀w,(Hd.bare PySem.Challenge.rw_falsesums_k26_degrees_refused.row.prog w 11600).map (λs=>plainSeenE K26.cO (looseW K26.cO ["Field","is_filling","STEP"]) s.2.abs)=some (plainGoodE K26.cO (looseW K26.cO ["Field","is_filling","STEP"])):=by
 intro w;kernel_rfl
set_option maxRecDepth 100000 in
set_option maxHeartbeats 0 in
theorem K26.ran6:∀w,(Hd.bare PySem.Challenge.rw_falsesums_k26_degrees_refused.row.prog w 11600).map (λs=>(plainSeenD K26.cO ["Field","is_filling","STEP"] s.2.abs,clsSeenW K26.cO ["Field","is_filling","STEP"] s.2.abs,s.2.abs.heap.bltView))=some (plainGoodD K26.cO ["Field","is_filling","STEP"],clsGoodW K26.cO ["Field","is_filling","STEP"],bltViewBooted):=by
 intro w;kernel_rfl
set_option maxRecDepth 100000 in
set_option maxHeartbeats 0 in
theorem K26.ran7:∀w,(Hd.bare PySem.Challenge.rw_falsesums_k26_degrees_refused.row.prog w 11600).map (λs=>wideSeen K26.cO s.2.abs)=some (wideGood K26.cO):=by
 intro w;kernel_rfl
set_option maxRecDepth 100000 in
set_option maxHeartbeats 0 in
theorem K26.ran8:∀w,(Hd.bare PySem.Challenge.rw_falsesums_k26_degrees_refused.row.prog w 11600).map (λs=>(((ownsOf K26.cO).all (λo=>s.2.abs.heap.ownExcOk o.name o.chain o.bm o.newId&&s.2.abs.heap.quietOk o.name),s.2.abs.heap.isNs mainGlobals,s.2.abs.heap.isNs builtinsNs,s.2.abs.heap.noLimitOk&&s.2.abs.heap.noDigitsOk),(s.2.abs.heap.bmainOk&&valsOk K26.cO s.2.abs.heap&&(!importsNone K26.cO || s.2.abs.heap.noSeerOk))))=some ((true,true,true,true),true):=by
 intro w;kernel_rfl
end
namespace L2
open PySem PySem.Spec PyProof.Rows
noncomputable abbrev Key:=Sum Int Str
noncomputable def mn:Key->Value->Bool
 | .inl k,v=>Value.isInt k v
 | .inr x,v=>Value.isStrOf x v
noncomputable def DgR (w:World):Key->Int
 | .inl k=>hashInt k
 | .inr x=>hashStr w x
theorem cb:∀{k:Key}{v:Value},mn k v=true->(∃i t,k=Sum.inl i/\v=Value.int i t)\/(∃x t,k=Sum.inr x/\v=Value.str x t)
 | .inl i,v,h=>by
   obtain⟨t,e⟩:=Value.isInt_shape (k:=i) (v:=v) h;exact .inl ⟨i,t,rfl,e⟩
 | .inr x,v,h=>by
   obtain⟨t,e⟩:=Value.isStrOf_shape (x:=x) (v:=v) h;exact .inr ⟨x,t,rfl,e⟩
theorem abx (i:Int)(t:Tok):mn (.inl i) (.int i t)=true:=by simp[mn,Value.isInt]
theorem aan (x:Str)(t:Tok):mn (.inr x) (.str x t)=true:=by simp[mn,Value.isStrOf]
theorem abn (a b:Int):decide ((Sum.inl a:Key)=Sum.inl b)=(a==b):=by
 by_cases e:a=b
 ·subst e;simp
 ·have h:¬(Sum.inl a:Key)=Sum.inl b:=λq=>e (Sum.inl.inj q);rw[decide_eq_false h];exact(beq_eq_false_iff_ne.mpr e).symm
theorem abE (a b:Str):decide ((Sum.inr a:Key)=Sum.inr b)=decide (a=b):=by
 by_cases e:a=b
 ·subst e;simp
 ·have h:¬(Sum.inr a:Key)=Sum.inr b:=λq=>e (Sum.inr.inj q);rw[decide_eq_false h,decide_eq_false e]
theorem aaw (a:Int)(b:Str):decide ((Sum.inl a:Key)=Sum.inr b)=false:=decide_eq_false (λq=>nomatch q)
theorem aax (a:Str)(b:Int):decide ((Sum.inr a:Key)=Sum.inl b)=false:=decide_eq_false (λq=>nomatch q)
noncomputable def bz (prog:zO)(w:World):PySem.KeyKind prog w Key where
 is:=mn
 hash:=DgR w
 inj:=λv a b ha hb=>by
  rcases cb ha with⟨i,t,rfl,rfl⟩|⟨x,t,rfl,rfl⟩
  ·rcases cb hb with⟨j,u,rfl,e⟩|⟨y,u,rfl,e⟩
   ·injection e with e1 _;rw[e1]
   ·exact nomatch e
  ·rcases cb hb with⟨j,u,rfl,e⟩|⟨y,u,rfl,e⟩
   ·exact nomatch e
   ·injection e with e1 _;rw[e1]
 byValue:=λk v h=>by
  rcases cb h with⟨i,t,rfl,rfl⟩|⟨x,t,rfl,rfl⟩ <;> rfl
 pyHash:=λhv h=>by
  rcases cb hv with⟨i,t,rfl,rfl⟩|⟨x,t,rfl,rfl⟩
  ·exact wpAny_pyHash_int h
  ·exact wpAny_pyHash_str h
 eqBool:=λhu hv h=>by
  rcases cb hu with⟨i,t,rfl,rfl⟩|⟨x,t,rfl,rfl⟩
  ·rcases cb hv with⟨j,u,rfl,rfl⟩|⟨y,u,rfl,rfl⟩
   ·rw[abn] at h;exact wpAny_eqBool_int h
   ·rw[aaw] at h;exact SeqAt.EqAt.int_str i t y u _ _ _ _ h
  ·rcases cb hv with⟨j,u,rfl,rfl⟩|⟨y,u,rfl,rfl⟩
   ·rw[aax] at h;exact SeqAt.EqAt.str_int x t j u _ _ _ _ h
   ·rw[abE] at h;exact wpAny_eqBool_str h
 «strs»:=λk x t v h=>by
  rcases cb h with⟨i,u,rfl,e⟩|⟨y,u,rfl,e⟩
  ·exact nomatch e
  ·injection e with e1 _
   subst e1
   cases v <;> rfl
theorem abF (prog:zO)(w:World)(i:Int)(t:Tok):(bz prog w).is (.inl i) (.int i t)=true:=abx i t
theorem aaf (prog:zO)(w:World)(x:Str)(t:Tok):(bz prog w).is (.inr x) (.str x t)=true:=aan x t
inductive V where
 |non|bl (b:Bool)|int (i:Int)|str (x:Str)|byt (b:Array UInt8)|flt (b:UInt64)|ref (a:Addr)|ty (n:String)
 deriving DecidableEq
noncomputable def aD:V->Value->Prop
 | .non,u=>u=Value.none
 | .bl b,u=>u=Value.bool b
 | .int i,u=>∃t,u=Value.int i t
 | .str x,u=>∃t,u=Value.str x t
 | .byt b,u=>∃t,u=Value.bytes b t
 | .flt b,u=>∃t,u=Value.float b t
 | .ref a,u=>u=Value.ref a
 | .ty n,u=>u=Value.type n
noncomputable abbrev aR:List V->List Value->Prop:=Paired aD
variable {us:xF}
theorem aR.length {xs:List V}(r:aR xs us):xs.length=us.length:=Paired.length r
theorem aR.get:∀{xs:List V}{us:xF}{i:Nat}{x:V},aR xs us->xs[i]?=some x->∃u,us[i]?=some u/\aD x u
 |_,_,_,_,.nil,e=>by simp at e
 |_,_,0,_,.cons r _,e=>by simp at e;subst e;exact⟨_,rfl,r⟩
 |_,_,i+1,x,.cons _ t,e=>by
  obtain⟨u,h1,h2⟩:=aR.get (i:=i) (x:=x) t (by simpa using e);exact⟨u,by simpa using h1,h2⟩
variable {u:Value}
theorem aR.set {x:V}(r:aD x u):∀{xs:List V}{us:xF}(i:Nat),aR xs us->aR (xs.set i x) (us.set i u)
 |_,_,_,.nil=>.nil
 |_,_,0,.cons _ t=>.cons r t
 |_,_,i+1,.cons q t=>.cons q (aR.set r i t)
theorem aR.append:∀{xs ys:List V}{us ws:xF},aR xs us->aR ys ws->aR (xs++ys) (us++ws)
 |_,_,_,_,.nil,s=>s
 |_,_,_,_,.cons r t,s=>.cons r (aR.append t s)
theorem aR.take:∀{xs:List V}{us:xF}(n:Nat),aR xs us->aR (xs.take n) (us.take n)
 |_,_,0,_=>.nil
 |_,_,_+1,.nil=>.nil
 |_,_,n+1,.cons r t=>.cons r (aR.take n t)
theorem aR.drop:∀{xs:List V}{us:xF}(n:Nat),aR xs us->aR (xs.drop n) (us.drop n)
 |_,_,0,r=>r
 |_,_,_+1,.nil=>.nil
 |_,_,n+1,.cons _ t=>aR.drop n t
noncomputable def fM:Option V->Option Value->Prop
 |some v,some u=>aD v u
 |none,none=>True
 |_,_=>False
noncomputable def KV {κ:Type}:List (κ×V)->List (κ×Value)->Prop:=Paired λ(p:κ×V)(q:κ×Value)=>p.1=q.1/\aD p.2 q.2
noncomputable def kV:Key->V
 | .inl i=>.int i
 | .inr x=>.str x
inductive HO where
 /-- a list -/
 |lst (xs:List V)
 /-- a tuple (never changes) -/
 |tup (xs:List V)
 /-- a dict MI keys are ints and texts;one MI keys are tuples of ints and texts (J8 empty one is both) -/
 |dK (FQ:List (Key×V))|dT (FQ:List (List Key×V))
 /-- a set of ints: its members,its size -/
 |set (S:Int->Bool)(n:Nat)
 /-- an instance of J8 class at C,its dict at dx,its attributes -/
 |ins (C dx:Addr)(fs:List (Str×V))
 /-- J8 dict of J8 instance at x -/
 |own (x:Addr)
 /-- J8 dict of an exception -/
 |xd (fs:List (Str×V))
 /-- a bound method,f of x -/
 |met (f x:Addr)
 /-- a range object lo,lo+1,.. below hi -/
 |rng (lo hi:Int)
 /-- a MJ Yx is known to J8 object (J8 RL;a dict while a ik walks it): read,never written while it is so -/
 |frz (o:Obj)(u:HO)
 /-- a code MK table -/
 |tbl (ps:va)
 /-- any other MJ,by Yy is true of its one object (a def of Wv own: Yz a S n:=HO.ext λh=>..) -/
 |ext (φ:Heap->Prop)
noncomputable abbrev Hp:=Addr->Option HO
noncomputable def upd (H:Hp)(a:Addr)(o:HO):Hp:=λb=>if b=a then some o else H b
variable {H:Hp}{a:Addr}{o:HO}
theorem ae :upd H a o a=some o:=by unfold upd;rw[if_pos rfl]
variable {b:Addr}
theorem ai (h:b≠a):upd H a o b=H b:=by unfold upd;rw[if_neg h]
theorem rJ {u:HO}:upd (upd H a o) a u=upd H a u:=by
 funext b;unfold upd;split <;> rfl
theorem kQ {u:HO}(h:H a=some o)(h':H b=some u)(d:o≠u):a≠b:=by
 intro e;subst e;rw[h] at h';exact d (Option.some.inj h')
theorem ar (h:H a=some o)(h':H b=none):a≠b:=by
 intro e;subst e;rw[h] at h';cases h'
section
variable (P:zO)(w:World)
noncomputable def br (H:Hp)(h:Heap)(a:Addr):HO->Prop
 | .lst xs=>xs.length<=sizeLine/\∃(its:xF)(n:Nat),aR xs its/\h.get? a=some {cls:=.type "list",data:=.seq its.toArray n}
 | .tup xs=>xs.length<=sizeLine/\∃its:List Value,aR xs its/\IsTup h a its.toArray
 | .dK FQ=>FQ.length<=sizeLine/\(a==sysModules)=false/\∃vs,KV FQ vs/\h.DictOf (bz P w) a vs
 | .dT FQ=>FQ.length<=sizeLine/\(a==sysModules)=false/\∃xs:List (List Key×Addr×Value),
  Paired (λ(p:List Key×V)(q:List Key×Addr×Value)=>p.1=q.1/\H q.2.1=some (.tup (p.1.map kV))/\aD p.2 q.2.2) FQ xs /\
  ∃o es ep,h.get? a=some o/\o.ExactDict/\o.data=.dict es ep/\es.toList=xs.map (entryOfKey (tupleKind (bz P w)))/\(xs.map (·.1)).Nodup
 | .set S n=>h.SetOf (intKind P w) a S n
 | .ins C dx fs=>H dx=some (.own a)/\fs.length<=1000/\dx≠a/\h.get? a=some (PySem.W.instObj C dx) /\
  ∃mA,h.Ns1 dx mA/\(∀f,fM (fs.lookup f) (mA f))/\PySem.Within mA (fs.map (·.1))
 | .own _=>∃o,h.get? a=some o
 | .xd fs=>∃mA,h.Ns1 a mA/\∀f,fM (fs.lookup f) (mA f)
 | .rng lo hi=>∃t u v,h.get? a=some {cls:=.type "range",data:=.fields #[.int lo t,.int hi u,.int 1 v]}
 | .frz o u=>h.get? a=some o/\br H h a u
 | .tbl ps=>h.get? a=some {cls:=.none,data:=.fields ps}
 | .met f x=>h.get? a=some (PySem.W.methodObj (.ref f) (.ref x))
 | .ext φ=>φ h/\(∃o,h.get? a=some o)/\∀h1 h2:Heap,φ h1->(∀o,h1.get? a=some o->h2.get? a=some o)->φ h2
noncomputable def eK (H:Hp)(h:Heap):Prop:=∀a o,H a=some o->br P w H h a o
end
section
variable {P:zO}{w:World}{H H':Hp}{h h':Heap}{a:Addr}{o:HO}
theorem br.lt (x:br P w H h a o):a<h.objs.size:=by
 cases o with
 |lst xs=>obtain⟨_,_,_,_,e⟩:=x;exact Heap.lt_size e
 |tup xs=>obtain⟨_,_,_,p⟩:=x;exact p.lt
 |dK FQ=>obtain⟨_,_,_,_,o,_,_,e,_⟩:=x;exact Heap.lt_size e
 |dT FQ=>obtain⟨_,_,_,_,o,_,_,e,_⟩:=x;exact Heap.lt_size e
 |set S n=>obtain⟨o,_,_,_,e,_⟩:=x;exact Heap.lt_size e
 |ins C dx fs=>obtain⟨_,_,_,e,_⟩:=x;exact Heap.lt_size e
 |own y=>obtain⟨_,e⟩:=x;exact Heap.lt_size e
 |xd fs=>obtain⟨_,⟨_,_,_,e,_⟩,_⟩:=x;exact Heap.lt_size e
 |rng lo hi=>obtain⟨_,_,_,e⟩:=x;exact Heap.lt_size e
 |frz ob u=>obtain⟨e,_⟩:=x;exact Heap.lt_size e
 |tbl ps=>exact Heap.lt_size (show h.get? a=some _ from x)
 |met f y=>exact Heap.lt_size (show h.get? a=some _ from x)
 |ext φ=>obtain⟨_,⟨_,e⟩,_⟩:=x;exact Heap.lt_size e
theorem Paired.aa0 {α β:Type}{F G:α->β->Prop}:∀{l₁:List α}{l₂:List β},Paired F l₁ l₂->(∀a b,F a b->G a b)->Paired G l₁ l₂
 |_,_,.nil,_=>.nil
 |_,_,.cons r t,f=>.cons (f _ _ r) (Paired.aa0 t f)
theorem br.aaO (x:br P w H h a o)(k:∀b u,(b=a\/H b=some (.own a))->h.get? b=some u->h'.get? b=some u)
 (ho:∀b,H b=some (.own a)->H' b=some (.own a))(ht:∀b xs,H b=some (.tup xs)->H' b=some (.tup xs)):br P w H' h' a o:=by
 induction o with
 |lst xs=>obtain⟨z,its,n,r,e⟩:=x;exact⟨z,its,n,r,k _ _ (.inl rfl) e⟩
 |tup xs=>obtain⟨z,its,r,ob,e,c⟩:=x;exact⟨z,its,r,ob,k _ _ (.inl rfl) e,c⟩
 |dK FQ=>obtain⟨z,y,vs,r,ob,es,ep,e,c⟩:=x;exact⟨z,y,vs,r,ob,es,ep,k _ _ (.inl rfl) e,c⟩
 |dT FQ =>
  obtain⟨z,y,xs,r,ob,es,ep,e,c⟩:=x;exact⟨z,y,xs,Paired.aa0 r λp q z=>⟨z.1,ht _ _ z.2.1,z.2.2⟩,ob,es,ep,k _ _ (.inl rfl) e,c⟩
 |set S n=>obtain⟨ob,es,ep,t,e,c⟩:=x;exact⟨ob,es,ep,t,k _ _ (.inl rfl) e,c⟩
 |ins C dx fs =>
  obtain⟨d,z,ne,e,mA,⟨od,es,ep,e2,c⟩,r⟩:=x;exact⟨ho _ d,z,ne,k _ _ (.inl rfl) e,mA,⟨od,es,ep,k _ _ (.inr d) e2,c⟩,r⟩
 |own y=>obtain⟨ob,e⟩:=x;exact⟨ob,k _ _ (.inl rfl) e⟩
 |xd fs=>obtain⟨mA,⟨od,es,ep,e,c⟩,r⟩:=x;exact⟨mA,⟨od,es,ep,k _ _ (.inl rfl) e,c⟩,r⟩
 |rng lo hi=>obtain⟨t,u,v,e⟩:=x;exact⟨t,u,v,k _ _ (.inl rfl) e⟩
 |frz ob u ih=>obtain⟨e,q⟩:=x;exact⟨k _ _ (.inl rfl) e,ih q⟩
 |tbl ps =>
  have e:h.get? a=some {cls:=.none,data:=.fields ps}:=x;show h'.get? a=some {cls:=.none,data:=.fields ps};exact k a _ (.inl rfl) e
 |met f y =>
  have e:h.get? a=some (PySem.W.methodObj (.ref f) (.ref y)):=x;show h'.get? a=some (PySem.W.methodObj (.ref f) (.ref y));exact k a _ (.inl rfl) e
 |ext φ=>obtain⟨p,⟨o,e⟩,st⟩:=x;exact⟨st _ _ p λo q=>k _ _ (.inl rfl) q,⟨o,k _ _ (.inl rfl) e⟩,st⟩
theorem eK.lt (x:eK P w H h)(e:H a=some o):a<h.objs.size:=(x a o e).lt
theorem eK.fresh (x:eK P w H h)(e:h.objs.size<=a):H a=none:=by
 cases q:H a with
 |none=>rfl
 |some u=>exact absurd (Nat.lt_of_lt_of_le (x.lt q) e) (Nat.lt_irrefl _)
theorem eK.kept (x:eK P w H h)(k:∀b u,h.get? b=some u->h'.get? b=some u):eK P w H h':=λa o e =>
 (x a o e).aaO (λb u _ q=>k b u q) (λ_ q=>q) λ_ _ q=>q
theorem eK.laid (x:eK P w H h)(k:∀b u,h.get? b=some u->h'.get? b=some u)(hp:h.objs.size<=a)(new:br P w (upd H a o) h' a o):eK P w (upd H a o) h':=λb u e=>by
 have hn:=x.fresh hp
 by_cases hb:b=a
 ·subst hb;rw[ae] at e;cases e;exact new
 ·rw[ai hb] at e
  exact(x b u e).aaO (λc v _ q=>k c v q) (λc q=>by rw[ai (ar q hn)];exact q) λc xs q=>by rw[ai (ar q hn)];exact q
end
noncomputable def Rd (H:Hp)(a:Addr)(u:HO):Prop:=H a=some u\/∃o,H a=some (.frz o u)
theorem Rd.of {u:HO}(h:H a=some u):Rd H a u:=.inl h
variable {P:zO}{w:World}{h:Heap}
theorem Rd.ok {u:HO}(r:Rd H a u)(x:eK P w H h):br P w H h a u:=by
 rcases r with r|⟨o,r⟩
 ·exact x a u r
 ·obtain⟨_,q⟩:=x a _ r;exact q
noncomputable def Cd:Option HO->Prop
 |some (.lst _)=>True
 |some (.dK _)=>True
 |some (.dT _)=>True
 |some (.set _ _)=>True
 |some (.ins _ _ _)=>True
 |some (.ext _)=>True
 |_=>False
section
variable {P:zO}{w:World}{H:Hp}{h h':Heap}{x e:Addr}{o':HO}
theorem eK.write (ok:eK P w H h)(mu:Cd (H x))(he:e=x\/H e=some (.own x))(k:∀b u,b≠e->h.get? b=some u->h'.get? b=some u)(Mo:∃u,h'.get? e=some u)
 (new:br P w (upd H x o') h' x o'):eK P w (upd H x o') h':=λb u q=>by
 have ML:∀c y,H c=some (.own y)->c≠x:=λc y r z=>by subst z;rw[r] at mu;exact mu
 have RM:∀c xs,H c=some (.tup xs)->c≠x:=λc xs r z=>by subst z;rw[r] at mu;exact mu
 by_cases hb:b=x
 ·subst hb;rw[ae] at q;cases q;exact new
 ·rw[ai hb] at q
  by_cases K4:b=e
  ·have q':H b=some (.own x):=by
    rcases he with z|z
    ·exact absurd (K4.trans z) hb
    ·rw[K4];exact z
   rw[q] at q';cases q';obtain⟨v,hv⟩:=Mo;exact⟨v,by rw[K4];exact hv⟩
  ·refine(ok b u q).aaO (λc v hc r=>k c v ?_ r) (λc r=>by rw[ai (ML c b r)];exact r) λc xs r=>by rw[ai (RM c xs r)];exact r
   rcases hc with rfl|hc
   ·exact K4
   ·rintro rfl
    rcases he with z|z
    ·exact ML c b hc z
    ·rw[hc] at z;cases z;exact hb rfl
end
structure Un (fs ex:List Addr)(H H':Hp)(h h':Heap):Prop where
 keep:∀b o,h.get? b=some o->H b=none->b∉fs->b∉ex->h'.get? b=some o
 slot:∀b o,h.get? b=some o->H b=none->b∈fs->b∉ex->∃sl,h'.get? b=some {o with slots:=sl}
 free:∀b o,h.get? b=some o->H b=none->b∉ex->H' b=none
 there:∀b o,h.get? b=some o->b∉ex->∃o',h'.get? b=some o'
 aam:∀b xs,H b=some (.tup xs)->H' b=some (.tup xs)
 aak:∀b o u,H b=some (.frz o u)->H' b=some (.frz o u)
 aas:∀b ps,H b=some (.tbl ps)->∃more,H' b=some (.tbl (ps++more))
section
variable {fs YA ex ex':List Addr}{H H1 H2:Hp}{h h1 h2 h':Heap}{a x e:Addr}{o:HO}
theorem Un.any (u:Un fs ex H H1 h h1){ob:Obj}(q:h.get? b=some ob)(n:H b=none)(hx:b∉ex):∃sl,h1.get? b=some {ob with slots:=sl}:=by
 by_cases hb:b∈fs
 ·exact u.slot b ob q n hb hx
 ·exact⟨ob.slots,u.keep b ob q n hb hx⟩
theorem Un.kept (k:∀b u,h.get? b=some u->h'.get? b=some u):Un fs ex H H h h' :=
 ⟨λb ob q _ _ _=>k b ob q,λb ob q _ _ _=>⟨ob.slots,k b ob q⟩,λ_ _ _ n _=>n,λb ob q _=>⟨ob,k b ob q⟩,λ_ _ q=>q,λ_ _ _ q=>q,λ_ ps q=>⟨#[],by rw[q];simp⟩⟩
theorem Un.refl:Un fs ex H H h h:=Un.kept λ_ _ q=>q
theorem Un.laid (k:∀b u,h.get? b=some u->h'.get? b=some u)(hp:h.objs.size<=a)(hn:H a=none):Un fs ex H (upd H a o) h h' where
 keep:=λb u q _ _ _=>k b u q
 slot:=λb u q _ _ _=>⟨u.slots,k b u q⟩
 free:=λb u q n _=>by rw[ai (Nat.ne_of_lt (Nat.lt_of_lt_of_le (Heap.lt_size q) hp))];exact n
 there:=λb u q _=>⟨u,k b u q⟩
 aam:=λb xs q=>by rw[ai (ar q hn)];exact q
 aak:=λb u xs q=>by rw[ai (ar q hn)];exact q
 aas:=λb ps q=>⟨#[],by rw[ai (ar q hn),q];simp⟩
theorem Un.write (mu:Cd (H x))(he:e=x\/H e=some (.own x))(k:∀b u,b≠e->h.get? b=some u->h'.get? b=some u)(Mo:∃u,h'.get? e=some u):Un fs ex H (upd H x o) h h':=by
 have hx:∀b,H b=none->b≠x:=λb n z=>by subst z;rw[n] at mu;exact mu
 have hb:∀b,H b=none->b≠e:=λb n z=>by
  subst z
  rcases he with r|r
  ·exact hx b n r
  ·rw[n] at r;cases r
 have hm:∀b u,H b=some u->¬Cd (some u)->b≠x:=λb u q nm z=>by subst z;rw[q] at mu;exact nm mu
 refine⟨λb u q n _ _=>k b u (hb b n) q,λb u q n _ _=>⟨u.slots,k b u (hb b n) q⟩,λb u q n _=>by rw[ai (hx b n)];exact n,λb u q _=>?_,
  λb xs q=>by rw[ai (hm b _ q λz=>z)];exact q,λb u xs q=>by rw[ai (hm b _ q λz=>z)];exact q,λb ps q=>⟨#[],by rw[ai (hm b _ q λz=>z),q];simp⟩⟩
 by_cases K4:b=e
 ·subst K4;exact Mo
 ·exact⟨u,k b u K4 q⟩
end
noncomputable def Dm (h:Heap)(H:Hp):List Addr:=(List.range h.objs.size).filter λa=>(H a).isSome
noncomputable def lB (h:Heap)(H:Hp):Heap:=PySem.W.hideAll h (Dm h H)
theorem aay (h:Heap)(H:Hp):(lB h H).objs.size=h.objs.size:=PySem.W.hideAll_size _ _
theorem aaA {o:Obj}(e:h.get? b=some o)(n:H b=none):(lB h H).get? b=some o :=
 PySem.W.hideAll_get _ e λhm=>by
  have q:(H b).isSome=true:=(List.mem_filter.mp hm).2;rw[n] at q;simp at q
theorem abJ {o:Obj}(e:(lB h H).get? b=some o):h.get? b=some o/\H b=none:=by
 have e':h.get? b=some o:=PySem.W.of_hideAll (Dm h H) e;refine⟨e',?_⟩
 cases q:H b with
 |none=>rfl
 |some x =>
  have hm:b∈Dm h H:=List.mem_filter.mpr ⟨List.mem_range.mpr (Heap.lt_size e'),by simp[q]⟩;have z:(lB h H).get? b=none:=PySem.W.hideAll_none (Dm h H) hm;rw[z] at e;cases e
structure Mod (K:PySem.W.Frag)(mg:yN)(base:Heap):Prop where
 kin:K.In base
 glob:base.Ns mainGlobals mg
 blt:∃mb,base.Ns builtinsNs mb/\∀x:Str,x ≠ "__name__"->mb x=bootBuiltins x
 nolimit:base.NoLimit
structure Cx where
 prog:Program
 w:World
 K:PySem.W.Frag
 mg:Str->Option Value
 base:Heap
 A:Around
 N:List Str
 s₀:Shared
 H₀:Hp
 env:Env
 outer:List Env
 stack:List Env
 ex:List Addr
 fn:Str->Bool
 calm:Bool
 pn:List (Addr×Obj)
 xe:Value->Shared->Prop
noncomputable def dz (l:List Env):List Addr:=l.filterMap (·.frame)
noncomputable abbrev Cx.fs (X:Cx):List Addr:=dz X.outer
noncomputable def CL (sc:Scope)(x:Str):Prop:=sc.names.lookup x=some .local\/sc.names.lookup x=some .cell\/sc.names.lookup x=some .free
noncomputable def Ar (sc:Scope)(x:Str):Prop:=sc.names.lookup x=some .local\/sc.names.lookup x=some .cell
noncomputable def aaI (env:Env)(h:Heap)(m:yN)(x:Str)(u:Value):Prop :=
 (env.kindOf x=some .local/\m x=some u)\/((env.kindOf x=some .cell\/env.kindOf x=some .free)/\∃c,env.cells.lookup x=some c/\h.IsCell c (some u))
structure Cx.Ok (X:Cx):Prop where
 mod:Mod X.K X.mg X.base
 kind:X.env.scope.kind=.function
 glob:X.env.globals=mainGlobals
 blt:X.env.builtins=builtinsNs
 above:X.s₀.heap.objs.size<=X.env.locals
 inj:∀x y c,X.env.cells.lookup x=some c->X.env.cells.lookup y=some c->x=y
 has:∀x,(X.env.kindOf x=some .cell\/X.env.kindOf x=some .free)->∃c,X.env.cells.lookup x=some c
 cab:∀x c,X.fn x=true->X.env.cells.lookup x=some c->X.s₀.heap.objs.size<=c
 hd:X.calm=true->X.A.handled=none
 frames:X.A.frames=some X.stack
 stk:X.stack=X.outer\/(X.stack=X.env::X.outer/\X.env.frame=some X.env.locals)
 exf:∀b∈X.ex,b≠X.env.locals/\∀x c,X.env.cells.lookup x=some c->c≠b
 bs:∀b o,X.base.get? b=some o->X.s₀.heap.get? b=some o/\X.H₀ b=none
 bsz:X.base.objs.size<=X.s₀.heap.objs.size
 aa6:∀b o,X.base.get? b=some o->b∉X.ex
 abg:∀b∈X.ex,b∉X.fs
 aat:X.s₀.heap.FunFrames X.base X.outer
 frf:∀b∈X.fs,X.H₀ b=none
structure Inv (X:Cx)(pins:List (Addr×Obj))(σ:List (Option V))(H:Hp)(s:Fp):Prop where
 ok:X.Ok
 os:s.os=X.s₀.os
 bare:AllBare s.gens
 base:Un X.fs X.ex X.H₀ H X.s₀.heap s.heap
 loc:∃m,s.heap.Ns X.env.locals m/\∀(i:Nat)(x:Str)(v:V),X.N[i]?=some x->σ[i]?=some (some v)->CL X.env.scope x->∃u,aD v u/\aaI X.env s.heap m x u
 cell:∀x c,X.env.cells.lookup x=some c->∃v,s.heap.IsCell c v
 free:H X.env.locals=none
 aag:∀x c,X.env.cells.lookup x=some c->H c=none
 pin:∀p∈X.pn++pins,s.heap.get? p.1=some p.2/\H p.1=none/\p.1≠X.env.locals/\p.1∉X.fs/\∀v,p.2.data≠.cell v
 hok:eK X.prog X.w H s.heap
 len:σ.length=X.N.length
variable {N:nO}{i:Nat}{x:Str}{M:Model}{A:Around}{v:V}
section
variable {X:Cx}{pins:List (Addr×Obj)}{σ:List (Option V)}{H H':Hp}{s:Fp}{h':Heap}
theorem Cx.Ok.acG (ok:X.Ok){o:Obj}(e:X.base.get? b=some o):b∉X.fs:=λhb=>by
 have:=(ok.aat.mem hb).1;rw[e] at this;cases this
theorem Inv.bs (I:Inv X pins σ H s):∀b o,X.base.get? b=some o->s.heap.get? b=some o/\H b=none:=λb o e =>
 ⟨I.base.keep b o (I.ok.bs b o e).1 (I.ok.bs b o e).2 (I.ok.acG e) (I.ok.aa6 b o e),I.base.free b o (I.ok.bs b o e).1 (I.ok.bs b o e).2 (I.ok.aa6 b o e)⟩
theorem Inv.bk (I:Inv X pins σ H s):∀b o,X.base.get? b=some o->s.heap.get? b=some o:=λb o e=>(I.bs b o e).1
theorem Inv.mod (I:Inv X pins σ H s):Mod X.K X.mg X.base:=I.ok.mod
theorem Inv.kIn (I:Inv X pins σ H s):X.K.In s.heap:=I.ok.mod.kin.keeps I.bk
theorem Inv.fr (I:Inv X pins σ H s):∃m,Fr X.base X.env.locals s.heap m :=
 let⟨m,hn,_⟩:=I.loc
 ⟨m,hn,I.bk,Nat.le_trans I.ok.bsz I.ok.above⟩
theorem Inv.lt (I:Inv X pins σ H s):X.env.locals<s.heap.objs.size:=let⟨_,hn,_⟩:=I.loc;hn.lt
theorem Inv.sz (I:Inv X pins σ H s):X.s₀.heap.objs.size<=s.heap.objs.size:=Nat.le_trans I.ok.above (Nat.le_of_lt I.lt)
theorem Inv.ab0 (I:Inv X pins σ H s)(h:s.heap.objs.size<=a):a∉X.fs:=λhb=>by
 obtain⟨_,o,ho,_⟩:=I.ok.aat.mem hb;exact absurd (Nat.lt_of_lt_of_le (Heap.lt_size ho) (Nat.le_trans I.sz h)) (Nat.lt_irrefl _)
theorem Inv.cne (I:Inv X pins σ H s):∀x c,X.env.cells.lookup x=some c->c≠X.env.locals:=λx c e z=>by
 obtain⟨v,o,ho,hd⟩:=I.cell x c e;obtain⟨m,⟨o',es,ep,GO,RN,_⟩,_⟩:=I.loc;rw[z,GO] at ho;cases ho;rw[RN] at hd;cases hd
theorem Inv.aat (I:Inv X pins σ H s):s.heap.FunFrames X.base X.outer:=by
 have all:∀(l:List Env),(∀b∈dz l,b∈X.fs)->X.s₀.heap.FunFrames X.base l->s.heap.FunFrames X.base l:=by
  intro l
  induction l with
  |nil=>intro _ _;trivial
  |cons env r ih =>
   intro hs hl;obtain⟨hk,⟨L,o,hf,hn,ho,hd⟩,hr⟩:=hl;have hL:L∈X.fs:=hs L (by unfold dz;rw[List.filterMap_cons,hf];exact List.mem_cons_self);obtain⟨sl,e⟩:=I.base.slot L o ho (I.ok.frf L hL) hL λz=>I.ok.abg L z hL;exact⟨hk,⟨L,_,hf,hn,e,hd⟩,ih (λb hb=>hs b (by unfold dz;rw[List.filterMap_cons,hf];exact List.mem_cons_of_mem _ hb)) hr⟩
 exact all X.outer (λ_ hb=>hb) I.ok.aat
theorem Inv.stack (I:Inv X pins σ H s):s.heap.FunFrames X.base X.stack:=by
 rcases I.ok.stk with e|⟨e,hf⟩
 ·rw[e];exact I.aat
 ·rw[e];obtain⟨m,hn,_⟩:=I.loc;refine .cons (by rw[I.ok.kind];decide) hf hn ?_ I.aat;exact Heap.get?_none_of_le (Nat.le_trans I.ok.bsz I.ok.above)
theorem Inv.aao (I:Inv X pins σ H s):∀b∈dz X.stack,b∈X.env.locals::X.fs:=λb hb=>by
 rcases I.ok.stk with e|⟨e,hf⟩
 ·rw[e] at hb;exact List.mem_cons_of_mem _ hb
 ·rw[e] at hb;unfold dz at hb;rw[List.filterMap_cons,hf] at hb;exact hb
theorem Inv.aaE (I:Inv X pins σ H s):∀b∈dz X.stack,H b=none:=λb hb=>by
 rcases List.mem_cons.mp (I.aao b hb) with e|hb
 ·rw[e];exact I.free
 ·obtain⟨_,o,ho,_⟩:=I.ok.aat.mem hb;exact I.base.free b o ho (I.ok.frf b hb) λz=>I.ok.abg b z hb
theorem Inv.step {g':Array GenState}{t':Nat}{d':Drawn}{ch:List Addr}(I:Inv X pins σ H s)
 (Ji:∀b∈ch,(b∈X.ex\/X.s₀.heap.objs.size<=b)/\b≠X.env.locals/\(∀x c,X.env.cells.lookup x=some c->c≠b)/\∀p∈X.pn++pins,p.1≠b)
 (keep:∀b o,b≠X.env.locals->b∉X.fs->b∉ch->s.heap.get? b=some o->H b=none->h'.get? b=some o)
 (slot:∀b o,b≠X.env.locals->b∈X.fs->b∉ch->s.heap.get? b=some o->H b=none->∃sl,h'.get? b=some {o with slots:=sl})(free:∀b o,b∉ch->s.heap.get? b=some o->H b=none->H' b=none)
 (there:∀b o,b∉ch->s.heap.get? b=some o->∃o',h'.get? b=some o')
 (aam:∀b xs,H b=some (.tup xs)->H' b=some (.tup xs))(aak:∀b o u,H b=some (.frz o u)->H' b=some (.frz o u))(aas:∀b ps,H b=some (.tbl ps)->∃more,H' b=some (.tbl (ps++more)))
 (ns:∀m,s.heap.Ns X.env.locals m->h'.Ns X.env.locals m)(hok:eK X.prog X.w H' h')(hg:AllBare g'):
 Inv X pins σ H' {s with heap:=h',gens:=g',drawn:=d',toks:=t'}:=by
 have Ww:∀b o,X.s₀.heap.get? b=some o->b≠X.env.locals:=λb o e=>Nat.ne_of_lt (Nat.lt_of_lt_of_le (Heap.lt_size e) I.ok.above)
 have Rg:∀b o,X.s₀.heap.get? b=some o->b∉X.ex->b∉ch:=λb o e hx hb=>by
  rcases(Ji b hb).1 with z|z
  ·exact hx z
  ·exact absurd (Nat.lt_of_lt_of_le (Heap.lt_size e) z) (Nat.lt_irrefl _)
 have cellK:∀x c,X.env.cells.lookup x=some c->∀v,s.heap.IsCell c v->h'.IsCell c v:=λx c e v ⟨o,ho,hd⟩=>by
  have MM:c∉ch:=λz=>(Ji c z).2.2.1 x c e rfl
  by_cases hc:c∈X.fs
  ·obtain⟨sl,q⟩:=slot c o (I.cne x c e) hc MM ho (I.aag x c e);exact⟨_,q,hd⟩
  ·exact⟨o,keep c o (I.cne x c e) hc MM ho (I.aag x c e),hd⟩
 refine⟨I.ok,I.os,hg,⟨λb o e n hb hx=>?_,λb o e n hb hx=>?_,λb o e n hx=>?_,λb o e hx=>?_,λb xs e=>aam b xs (I.base.aam b xs e),λb o xs e=>aak b o xs (I.base.aak b o xs e),λb ps e=>?_⟩,?_,λx c e=>?_,?_,λx c e=>?_,λp hp=>?_,hok,I.len⟩
 ·exact keep b o (Ww b o e) hb (Rg b o e hx) (I.base.keep b o e n hb hx) (I.base.free b o e n hx)
 ·obtain⟨sl,e1⟩:=I.base.slot b o e n hb hx;obtain⟨Ie,e2⟩:=slot b _ (Ww b o e) hb (Rg b o e hx) e1 (I.base.free b o e n hx);exact⟨Ie,e2⟩
 ·obtain⟨o',e1⟩:=I.base.there b o e hx;exact free b o' (Rg b o e hx) e1 (I.base.free b o e n hx)
 ·obtain⟨o',e1⟩:=I.base.there b o e hx;exact there b o' (Rg b o e hx) e1
 ·obtain⟨m1,e1⟩:=I.base.aas b ps e;obtain⟨m2,e2⟩:=aas b _ e1;exact⟨m1++m2,by rw[e2,Array.append_assoc]⟩
 ·obtain⟨m,hn,hl⟩:=I.loc;refine⟨m,ns m hn,λi x v e1 e2 e3=>?_⟩;obtain⟨u,r,l⟩:=hl i x v e1 e2 e3;refine⟨u,r,?_⟩
  rcases l with l|⟨k,c,e,z⟩
  ·exact .inl l
  ·exact .inr ⟨k,c,e,cellK x c e _ z⟩
 ·obtain⟨v,z⟩:=I.cell x c e;exact⟨v,cellK x c e v z⟩
 ·obtain⟨m,⟨o,_,_,ho,_⟩,_⟩:=I.loc;exact free _ o (λz=>(Ji _ z).2.1 rfl) ho I.free
 ·obtain⟨v,o,ho,hd⟩:=I.cell x c e;exact free c o (λz=>(Ji c z).2.2.1 x c e rfl) ho (I.aag x c e)
 ·obtain⟨e,n,ne,nf,d⟩:=I.pin p hp;have MM:p.1∉ch:=λz=>(Ji p.1 z).2.2.2 p hp rfl;exact⟨keep p.1 p.2 ne nf MM e n,free p.1 p.2 MM e n,ne,nf,d⟩
theorem Inv.un {t':Nat}(I:Inv X pins σ H s)(u:Un X.fs [] H H' s.heap h')(hok:eK X.prog X.w H' h'):Inv X pins σ H' {s with heap:=h',toks:=t'}:=by
 obtain⟨m,⟨o,es,ep,ho,r⟩,_⟩:=id I.loc;obtain⟨sl,hL⟩:=u.any ho I.free (by simp)
 exact I.step (g':=s.gens) (d':=s.drawn) (ch:=[]) (λ_ z=>nomatch z) (λb o _ hb _ e n=>u.keep b o e n hb (by simp)) (λb o _ hb _ e n=>u.slot b o e n hb (by simp)) (λb o _ e n=>u.free b o e n (by simp)) (λb o _ e=>u.there b o e (by simp)) u.aam u.aak u.aas (λm' hm=>by
  obtain⟨o',Ju,J9,GO,r'⟩:=hm;rw[ho] at GO;cases GO
  exact⟨_,Ju,J9,hL,r'⟩) hok I.bare
theorem Inv.call {g':Array GenState}{t':Nat}{d':Drawn}{ch:List Addr}(I:Inv X pins σ H s)(u:Un (dz X.stack) ch H H' s.heap h')(hok:eK X.prog X.w H' h')(hg:AllBare g')
 (Ji:∀b∈ch,(b∈X.ex\/X.s₀.heap.objs.size<=b)/\b≠X.env.locals/\(∀x c,X.env.cells.lookup x=some c->c≠b)/\∀p∈X.pn++pins,p.1≠b):
 Inv X pins σ H' {s with heap:=h',gens:=g',drawn:=d',toks:=t'}:=by
 obtain⟨m,⟨o,es,ep,ho,r⟩,_⟩:=id I.loc;obtain⟨sl,hL⟩:=u.any ho I.free λz=>(Ji _ z).2.1 rfl
 exact I.step (ch:=ch) Ji (λb o hL hb hc e n=>u.keep b o e n (λz=>(List.mem_cons.mp (I.aao b z)).elim hL hb) hc) (λb o _ _ hc e n=>u.any e n hc) (λb o hc e n=>u.free b o e n hc) (λb o hc e=>u.there b o e hc) u.aam u.aak u.aas (λm' hm=>by
  obtain⟨o',Ju,J9,GO,r'⟩:=hm;rw[ho] at GO;cases GO
  exact⟨_,Ju,J9,hL,r'⟩) hok hg
theorem Inv.turned {t':Nat}{it:Addr}(I:Inv X pins σ H s)(k:∀b o,b≠it->s.heap.get? b=some o->h'.get? b=some o)(hn:H it=none)(hL:it≠X.env.locals)
 (h1:it∈X.ex\/X.s₀.heap.objs.size<=it)(h2:∀x c,X.env.cells.lookup x=some c->c≠it)(h3:∀p∈X.pn++pins,p.1≠it):Inv X pins σ H {s with heap:=h',toks:=t'}:=by
 have Ka:∀b u,H b=some u->b≠it:=λb u e z=>by rw[z,hn] at e;cases e
 refine I.step (g':=s.gens) (d':=s.drawn) (ch:=[it]) (λb hb=>?_) (λb o _ _ hc e _=>k b o (λz=>hc (by simp[z])) e) (λb o _ _ hc e _=>⟨o.slots,k b o (λz=>hc (by simp[z])) e⟩) (λ_ _ _ _ n=>n)
  (λb o hc e=>⟨o,k b o (λz=>hc (by simp[z])) e⟩) (λ_ _ e=>e) (λ_ _ _ e=>e) (λb ps e=>⟨#[],by rw[e];simp⟩) (λm hm=>?_) (λb u e=>?_) I.bare
 ·have e:b=it:=by simpa using hb
  subst e;exact⟨h1,hL,h2,h3⟩
 ·obtain⟨o,es,ep,ho,r⟩:=hm;exact⟨o,es,ep,k _ o (Ne.symm hL) ho,r⟩
 ·refine(I.hok b u e).aaO (λc v hc q=>k c v ?_ q) (λ_ q=>q) λ_ _ q=>q
  rcases hc with z|z
  ·rw[z];exact Ka b u e
  ·exact Ka c _ z
theorem Inv.tok (I:Inv X pins σ H s)(t:Nat):Inv X pins σ H {s with toks:=t}:=I.un (h':=s.heap) (t':=t) Un.refl I.hok
theorem Inv.kept {t':Nat}(I:Inv X pins σ H s)(k:∀b u,s.heap.get? b=some u->h'.get? b=some u):Inv X pins σ H {s with heap:=h',toks:=t'}:=I.un (Un.kept k) (I.hok.kept k)
theorem Inv.laid {a:Addr}{o:HO}{t':Nat}(I:Inv X pins σ H s)(k:∀b u,s.heap.get? b=some u->h'.get? b=some u)(hp:s.heap.objs.size<=a)(new:br X.prog X.w (upd H a o) h' a o):
 Inv X pins σ (upd H a o) {s with heap:=h',toks:=t'}:=I.un (Un.laid k hp (I.hok.fresh hp)) (I.hok.laid k hp new)
theorem Inv.write {x e:Addr}{o:HO}{t':Nat}(I:Inv X pins σ H s)(mu:Cd (H x))(he:e=x\/H e=some (.own x))(k:∀b u,b≠e->s.heap.get? b=some u->h'.get? b=some u)(Mo:∃u,h'.get? e=some u)
 (new:br X.prog X.w (upd H x o) h' x o):Inv X pins σ (upd H x o) {s with heap:=h',toks:=t'}:=I.un (Un.write mu he k Mo) (I.hok.write mu he k Mo new)
theorem Inv.aap {pins':List (Addr×Obj)}(I:Inv X pins σ H s)(h:∀p∈pins',s.heap.get? p.1=some p.2/\H p.1=none/\p.1≠X.env.locals/\p.1∉X.fs/\∀v,p.2.data≠.cell v):Inv X pins' σ H s :=
 ⟨I.ok,I.os,I.bare,I.base,I.loc,I.cell,I.free,I.aag,λp hp=>(List.mem_append.mp hp).elim (λz=>I.pin p (List.mem_append_left _ z)) (h p),I.hok,I.len⟩
theorem jH (hN:N.Nodup){j:Nat}(a:N[i]?=some x)(b:N[j]?=some x):i=j:=by
 obtain⟨h1,e1⟩:=List.getElem?_eq_some_iff.mp a;obtain⟨h2,e2⟩:=List.getElem?_eq_some_iff.mp b;exact(List.getElem_inj hN).mp (e1.trans e2.symm)
theorem iY {E:oP}{Q:Unit->Shared->Prop}(I:Inv X pins σ H s)(hN:X.N.Nodup)(hi:X.N[i]?=some x)(hx:Ar X.env.scope x)(r:aD v u)
 (h:∀s',Inv X pins (σ.set i (some v)) H s'->(∃a,Heap.SameBut a s.heap s'.heap/\(a=X.env.locals\/X.env.cells.lookup x=some a))->Q () s')(hf:X.fn x=true\/X.env.scope.names.lookup x=some .local:=by first|exact .inl rfl|exact .inr rfl|assumption):wpAny M A (storeName X.env x u) Q E s:=by
 obtain⟨m,hn,hl⟩:=id I.loc
 have RO:(X.env.scope.kind == .class || (X.env.scope.kind == .module&&X.env.locals != X.env.globals))=false:=by rw[I.ok.kind];rfl
 have Wx:i<σ.length:=by rw[I.len];exact(List.getElem?_eq_some_iff.mp hi).1
 have cne:=I.cne
 have tracked:∀{a:Addr}{h':Heap},(∃o,s.heap.get? a=some o/\H a=none)->Heap.SameBut a s.heap h'->eK X.prog X.w H h':=λ{a h'} ha hs b ob e=>by
  obtain⟨_,_,GC⟩:=ha;refine(I.hok b ob e).aaO (λc w' hc q=>(hs.2 c ?_).trans q) (λ_ q=>q) λ_ _ q=>q;rintro rfl
  rcases hc with rfl|hc
  ·rw[GC] at e;cases e
  ·rw[GC] at hc;cases hc
 rcases hx with hk|hk
 ·refine wpAny_storeName_local hk hn (λh' K5 hs=>?_) RO;obtain⟨oL,_,_,YB,_⟩:=id hn;refine h _ ⟨I.ok,I.os,I.bare,⟨λb o e n hb hx=>?_,λb o e n hb hx=>?_,I.base.free,λb o e hx=>?_,I.base.aam,I.base.aak,I.base.aas⟩,⟨_,K5,λj y v' e1 e2 e3=>?_⟩,λy c e=>?_,I.free,I.aag,λp hp=>?_,tracked ⟨oL,YB,I.free⟩ hs,by simpa using I.len⟩ ⟨_,hs,.inl rfl⟩
  ·exact(hs.2 b (Nat.ne_of_lt (Nat.lt_of_lt_of_le (Heap.lt_size e) I.ok.above))).trans (I.base.keep b o e n hb hx)
  ·obtain⟨sl,e1⟩:=I.base.slot b o e n hb hx;exact⟨sl,(hs.2 b (Nat.ne_of_lt (Nat.lt_of_lt_of_le (Heap.lt_size e) I.ok.above))).trans e1⟩
  ·obtain⟨o',e1⟩:=I.base.there b o e hx;exact⟨o',(hs.2 b (Nat.ne_of_lt (Nat.lt_of_lt_of_le (Heap.lt_size e) I.ok.above))).trans e1⟩
  ·by_cases hj:j=i
   ·subst hj;rw[hi] at e1;cases e1;rw[List.getElem?_set_self Wx] at e2
    cases e2
    exact⟨u,r,.inl ⟨hk,by simp⟩⟩
   ·rw[List.getElem?_set_ne (Ne.symm hj)] at e2;obtain⟨u',r',q⟩:=hl j y v' e1 e2 e3;refine⟨u',r',?_⟩
    rcases q with⟨k,e⟩|⟨k,c,e,z⟩
    ·refine .inl ⟨k,?_⟩;have:y≠x:=λe=>hj (jH hN e1 (e▸hi));simp[this,e]
    ·exact .inr ⟨k,c,e,z.sameBut hs (cne y c e)⟩
  ·obtain⟨w',z⟩:=I.cell y c e;exact⟨w',z.sameBut hs (cne y c e)⟩
  ·obtain⟨e,n,ne,nf,d⟩:=I.pin p hp;exact⟨(hs.2 p.1 ne).trans e,n,ne,nf,d⟩
 ·have RP:X.fn x=true:=by
   rcases hf with z|z
   ·exact z
   ·rw[z] at hk;cases hk
  obtain⟨c,hc⟩:=I.ok.has x (.inl hk);obtain⟨w',z⟩:=I.cell x c hc;refine wpAny_storeName_cell I.ok.kind hk hc z (λh' Gd hs=>?_);obtain⟨oc,Ht,RQ⟩:=id z;refine h {s with heap:=h'} ⟨I.ok,I.os,I.bare,⟨λb o e n hb hx=>?_,λb o e n hb hx=>?_,I.base.free,λb o e hx=>?_,I.base.aam,I.base.aak,I.base.aas⟩,⟨m,hn.sameBut hs (Ne.symm (cne x c hc)),λj y v' e1 e2 e3=>?_⟩,λy c' e=>?_,I.free,I.aag,λp hp=>?_,tracked ⟨oc,Ht,I.aag x c hc⟩ hs,by simpa using I.len⟩ ⟨c,hs,.inr hc⟩
  ·exact(hs.2 b (Nat.ne_of_lt (Nat.lt_of_lt_of_le (Heap.lt_size e) (I.ok.cab x c RP hc)))).trans (I.base.keep b o e n hb hx)
  ·obtain⟨sl,e1⟩:=I.base.slot b o e n hb hx;exact⟨sl,(hs.2 b (Nat.ne_of_lt (Nat.lt_of_lt_of_le (Heap.lt_size e) (I.ok.cab x c RP hc)))).trans e1⟩
  ·obtain⟨o',e1⟩:=I.base.there b o e hx;exact⟨o',(hs.2 b (Nat.ne_of_lt (Nat.lt_of_lt_of_le (Heap.lt_size e) (I.ok.cab x c RP hc)))).trans e1⟩
  ·by_cases hj:j=i
   ·subst hj;rw[hi] at e1;cases e1;rw[List.getElem?_set_self Wx] at e2
    cases e2
    exact⟨u,r,.inr ⟨.inl hk,c,hc,Gd⟩⟩
   ·rw[List.getElem?_set_ne (Ne.symm hj)] at e2;obtain⟨u',r',q⟩:=hl j y v' e1 e2 e3;refine⟨u',r',?_⟩
    rcases q with q|⟨k,c',e,z'⟩
    ·exact .inl q
    ·refine .inr ⟨k,c',e,z'.sameBut hs ?_⟩;rintro rfl;exact hj (jH hN e1 (I.ok.inj _ _ _ e hc▸hi))
  ·by_cases Rh:c'=c
   ·subst Rh;exact⟨_,Gd⟩
   ·obtain⟨w2,z2⟩:=I.cell y c' e;exact⟨w2,z2.sameBut hs Rh⟩
  ·obtain⟨e,n,ne,nf,d⟩:=I.pin p hp;refine⟨(hs.2 p.1 ?_).trans e,n,ne,nf,d⟩;intro q;rw[q,Ht] at e;have q':oc=p.2:=Option.some.inj e;exact d w' (by rw[<-q'];exact RQ)
theorem eR {M:Model}{E:oP}{Q:Unit->Shared->Prop}(I:Inv X pins σ H s)(hN:X.N.Nodup)(hi:X.N[i]?=some x)(hx:Ar X.env.scope x)(r:aD v u)
 (h:∀s',Inv X pins (σ.set i (some v)) H s'->Q () s')(hf:X.fn x=true\/X.env.scope.names.lookup x=some .local:=by first|exact .inl rfl|exact .inr rfl|assumption):wpAny M A (storeName X.env x u) Q E s :=
 iY I hN hi hx r (λs' I' _=>h s' I') hf
theorem Inv.aa7 {s':Fp}{ch:List Addr}(I:Inv X pins σ H s)(ho:s'.os=s.os)(u:Un (dz X.stack) ch H H' s.heap s'.heap)(hok:eK X.prog X.w H' s'.heap)(hg:AllBare s'.gens)
 (Ji:∀b∈ch,(b∈X.ex\/X.s₀.heap.objs.size<=b)/\b≠X.env.locals/\(∀x c,X.env.cells.lookup x=some c->c≠b)/\∀p∈X.pn++pins,p.1≠b):Inv X pins σ H' s':=by
 obtain⟨h',g',d',t',o'⟩:=s';have e:o'=s.os:=ho;subst e;exact I.call (g':=g') (t':=t') (d':=d') u hok hg Ji
end
noncomputable abbrev XK:=Value->Option Addr->Hp->Prop
noncomputable abbrev St:=List (Option V)
noncomputable abbrev VK:=V->Hp->Prop
noncomputable abbrev TE:=St->Hp->VK->Prop
noncomputable abbrev TT:=St->Hp->(Bool->Hp->Prop)->Prop
noncomputable abbrev TA:=St->Hp->(List V->Hp->Prop)->Prop
structure Ends where
 nx:St->Hp->Prop
 rt:VK
 bk:St->Hp->Prop:=λ_ _=>False
 ct:St->Hp->Prop:=λ_ _=>False
noncomputable abbrev TS:=Ends->St->Hp->Prop
noncomputable def EP (X:Cx)(pins:List (Addr×Obj))(σ:St)(Q:VK)(u:Value)(s':Fp):Prop:=∃v H',Inv X pins σ H' s'/\aD v u/\Q v H'
noncomputable def TP (X:Cx)(pins:List (Addr×Obj))(σ:St)(Q:Bool->Hp->Prop)(b:Bool)(s':Fp):Prop:=∃H',Inv X pins σ H' s'/\Q b H'
noncomputable def AP (X:Cx)(pins:List (Addr×Obj))(σ:St)(Q:List V->Hp->Prop)(us:xF)(s':Fp):Prop:=∃vs H',Inv X pins σ H' s'/\aR vs us/\Q vs H'
noncomputable def SP (X:Cx)(pins:List (Addr×Obj))(D:Ends)(f:Flow)(s':Fp):Prop :=
 match f with
 | .next=>∃σ' H',Inv X pins σ' H' s'/\D.nx σ' H'
 | .brk=>∃σ' H',Inv X pins σ' H' s'/\D.bk σ' H'
 | .cont=>∃σ' H',Inv X pins σ' H' s'/\D.ct σ' H'
 | .ret u=>∃v σ' H',Inv X pins σ' H' s'/\aD v u/\D.rt v H'
noncomputable def PE (X:Cx)(e:Expr)(t:TE):Prop :=
 ∀(pins:List (Addr×Obj))(s:Fp)(σ:St)(H:Hp)(Q:VK),Inv X pins σ H s->t σ H Q->wpAny (model X.prog X.w) X.A (eval e X.env) (EP X pins σ Q) X.xe s
noncomputable def PT (X:Cx)(e:Expr)(t:TT):Prop :=
 ∀(pins:List (Addr×Obj))(s:Fp)(σ:St)(H:Hp)(Q:Bool->Hp->Prop),Inv X pins σ H s->t σ H Q->wpAny (model X.prog X.w) X.A (isTrue e X.env (eval e X.env)) (TP X pins σ Q) X.xe s
noncomputable def PW (X:Cx)(e:Expr)(t:TT):Prop :=
 ∀(dH:Sem Value)(pins:List (Addr×Obj))(s:Fp)(σ:St)(H:Hp)(Q:Bool->Hp->Prop),Inv X pins σ H s->t σ H Q->wpAny (model X.prog X.w) X.A (isTrue e X.env dH) (TP X pins σ Q) X.xe s
variable {X:Cx}{e:Expr}
theorem PW.pt {t:TT}(h:PW X e t):PT X e t:=h _
noncomputable def PA (X:Cx)(es:wW)(t:TA):Prop :=
 ∀(pos:Pos)(pins:List (Addr×Obj))(s:Fp)(σ:St)(H:Hp)(Q:List V->Hp->Prop),Inv X pins σ H s->t σ H Q->wpAny (model X.prog X.w) X.A (spliced (backTo pos (starEach es X.env))) (AP X pins σ Q) X.xe s
noncomputable def PS (X:Cx)(st:Stmt)(t:TS):Prop :=
 ∀(pins:List (Addr×Obj))(s:Fp)(σ:St)(H:Hp)(D:Ends),Inv X pins σ H s->t D σ H->wpAny (model X.prog X.w) X.A (exec st X.env) (SP X pins D) X.xe s
noncomputable def hV (X:Cx)(st:uH)(t:TS):Prop :=
 ∀(pins:List (Addr×Obj))(s:Fp)(σ:St)(H:Hp)(D:Ends),Inv X pins σ H s->t D σ H->wpAny (model X.prog X.w) X.A (execs st X.env) (SP X pins D) X.xe s
variable {s:Fp}
theorem bA {α:Type}{t:Sem α}{Q Q':α->Shared->Prop}{E:oP}(h:wpAny M A t Q E s)(hQ:∀a s,Q a s->Q' a s):wpAny M A t Q' E s:=wpAny_mono h hQ λ_ _ x=>x
variable {pins:List (Addr×Obj)}{σ:St}{op:CmpOp}
section
variable {X:Cx}
noncomputable def cC (i:Nat):TE:=λσ H Q=>∃v,σ[i]?=some (some v)/\Q v H
noncomputable def tC (v:V):TE:=λ_ H Q=>Q v H
theorem aaJ {pos:Pos}(hN:X.N[i]?=some x)(hv:CL X.env.scope x)(hd:(x==("__debug__":Str))=false:=by decide)(GW:(x==("__classdict__":Str))=false:=by decide):PE X (.Name x pos) (cC i):=by
 intro pins s σ H Q I h;obtain⟨v,e,h⟩:=h;obtain⟨m,hn,hl⟩:=I.loc;obtain⟨u,r,l⟩:=hl i x v hN e hv;have fin:EP X pins σ Q u s:=⟨v,H,I,r,h⟩
 rcases l with⟨hk,hm⟩|⟨hk,c,hc,Gm⟩
 ·exact wpAny_Name (wpAny_loadName_local I.ok.kind hk hn hm fin) hd
 ·rcases hk with hk|hk
  ·exact wpAny_Name (wpAny_loadName_cell I.ok.kind hk hc Gm fin) hd
  ·exact wpAny_Name (wpAny_loadName_free I.ok.kind hk hc Gm fin GW) hd
theorem ah {i j pos}:PE X (.Constant (.int i) j pos) (tC (.int i)):=λ_ _ _ H _ I h=>wpAny_Constant_int ⟨.int i,H,I.tok _,⟨_,rfl⟩,h⟩
theorem dG {b j pos}:PE X (.Constant (.bool b) j pos) (tC (.bl b)):=λ_ _ _ H _ I h=>Constant_bool ⟨.bl b,H,I,rfl,h⟩
theorem fV {j pos}:PE X (.Constant .none j pos) (tC .non):=λ_ _ _ H _ I h=>Constant_none ⟨.non,H,I,rfl,h⟩
theorem cK {x j pos}:PE X (.Constant (.str x) j pos) (tC (.str x)):=λ_ _ _ H _ I h=>Calls.Constant_str ⟨.str x,H,I.tok _,⟨_,rfl⟩,h⟩
noncomputable def Gl (X:Cx)(x:Str):Prop:=X.env.kindOf x=some .globalImplicit
theorem fj {E:oP}{pos:Pos}{Q:oP}(I:Inv X pins σ H s)(hg:Gl X x)(hm:X.mg x=some u)(h:Q u s)
 (hd:(x==("__debug__":Str))=false:=by decide):wpAny (model X.prog X.w) X.A (eval (.Name x pos) X.env) Q E s :=
 Calls.Name_function_global I.ok.kind hg (Calls.loadGlobal_global (by rw[I.ok.glob];exact I.mod.glob.keeps I.bk) hm h) hd
theorem dO {E:oP}{pos:Pos}{Q:oP}(I:Inv X pins σ H s)(hg:Gl X x)(hm:X.mg x=none)(hv:bootBuiltins x=some u)(h:Q u s)
 (hn:x ≠ "__name__":=by decide)(hd:(x==("__debug__":Str))=false:=by decide):wpAny (model X.prog X.w) X.A (eval (.Name x pos) X.env) Q E s:=by
 obtain⟨mb,h1,h2⟩:=I.mod.blt;exact Calls.Name_function_global I.ok.kind hg (Calls.loadGlobal_builtin (by rw[I.ok.glob];exact I.mod.glob.keeps I.bk) hm (by rw[I.ok.blt];exact h1.keeps I.bk) ((h2 x hn).trans hv) h) hd
theorem cz {pos:Pos}(hg:Gl X x)(hm:X.mg x=some u)(r:aD v u)(hd:(x==("__debug__":Str))=false:=by decide):PE X (.Name x pos) (tC v):=
 λ_ _ _ H _ I h=>fj I hg hm ⟨v,H,I,r,h⟩ hd
theorem cH {pos:Pos}(hg:Gl X x)(hm:X.mg x=none)(hv:bootBuiltins x=some u)(r:aD v u)(hn:x ≠ "__name__":=by decide)(hd:(x==("__debug__":Str))=false:=by decide):PE X (.Name x pos) (tC v):=
 λ_ _ _ H _ I h=>dO I hg hm hv ⟨v,H,I,r,h⟩ hn hd
variable {a b:Expr}{ta tb:TE}{pos:Pos}
noncomputable def PC (X:Cx)(op:CmpOp)(a b:Expr)(t:TE):Prop :=
 ∀(pins:List (Addr×Obj))(s:Fp)(σ:St)(H:Hp)(Q:VK),Inv X pins σ H s->t σ H Q →
  wpAny (model X.prog X.w) X.A (eval a X.env) (λv s₁=>wpAny (model X.prog X.w) X.A (eval b X.env) (λu s₂=>wpAny (model X.prog X.w) X.A (compareOp op v u) (EP X pins σ Q) X.xe s₂) X.xe s₁) X.xe s
theorem Cls (b:Expr)(h:op ≠ .In)(h2:op ≠ .NotIn):behindInMarks op b=false:=by
 have e1:(op==CmpOp.In)=false:=by cases op <;> first|rfl|exact absurd rfl h
 have e2:(op==CmpOp.NotIn)=false:=by cases op <;> first|rfl|exact absurd rfl h2
 cases b <;> simp[behindInMarks,e1,e2]
noncomputable def aaj (ta:TE):TE:=λσ H Q=>ta σ H λx H1=>Q (.bl (decide (x=.non))) H1
theorem aD.abz {x:V}{v:Value}(r:aD x v):(v==Value.none)=decide (x=.non):=by
 cases x with
 |non=>cases r;rfl
 |bl _=>cases r;rfl
 |int _=>obtain⟨t,rfl⟩:=r;rfl
 |str _=>obtain⟨t,rfl⟩:=r;rfl
 |byt _=>obtain⟨t,rfl⟩:=r;rfl
 |flt _=>obtain⟨t,rfl⟩:=r;rfl
 |ref _=>cases r;rfl
 |ty _=>cases r;rfl
theorem aal {j pos'}(ha:PE X a ta):PC X .Is a (.Constant .none j pos') (aaj ta):=by
 intro pins s σ H Q I h;refine bA (ha pins s σ H _ I h) λv s1 z'=>?_;obtain⟨x,H1,I1,r1,q1⟩:=z';exact Constant_none (is_none_gen ⟨.bl _,H1,I1,by rw[r1.abz];rfl,q1⟩)
noncomputable def tB (t:TE):TT:=λσ H Q=>t σ H λx H1=>∃c,x=.bl c/\Q c H1
theorem vB {t:TE}(h:PC X op a b t)(h1:behindInMarks op b=false:=by first|exact Cls _ (by decide) (by decide)|rfl):PT X (.Compare a [op] [b] pos) (tB t):=by
 intro pins s σ H Q I hw;refine wpAny_isTrue_Compare1 (bA (h pins s σ H _ I hw) λv s1 h1=>bA h1 λu s2 h2=>bA h2 λc s3 z'=>?_) h1;obtain⟨x,H1,I1,r1,q1⟩:=z';obtain⟨d,rfl,q⟩:=q1
 cases r1
 exact wpAny_truthy_bool ⟨H1,I1,q⟩
theorem b8 {t:TE}(h:PE X e t)(he:∀dH,isTrue e X.env dH=(do let v <-dH;standAt e.pos;holding [v] (truthy v)):=by intro _;rfl):PT X e (tB t):=by
 intro pins s σ H Q I hw;refine isTrue_plain (bA (h pins s σ H _ I hw) λv s1 z'=>?_) (he _);obtain⟨x,H1,I1,r1,q1⟩:=z';obtain⟨d,rfl,q⟩:=q1
 cases r1
 exact wpAny_truthy_bool ⟨H1,I1,q⟩
variable {tA Ri:TT}{rest:wW}
noncomputable def CXT (t u:TT):TT:=λσ H Q=>t σ H λc H1=>if c=true then u σ H1 Q else Q false H1
noncomputable def aaL (t u:TT):TT:=λσ H Q=>t σ H λc H1=>if c=true then Q true H1 else u σ H1 Q
noncomputable def abK (t:TT):TT:=λσ H Q=>t σ H λc H1=>Q (!c) H1
theorem su (ha:PT X a tA):PW X (.BoolOp .And [a] pos) tA:=by
 intro wh pins s σ H Q I h;refine isTrue_and (bA (ha pins s σ H Q I h) λc s1 e=>?_)
 cases c with
 |true=>exact isTrue_and_nil e
 |false=>exact e
theorem dA (ha:PT X a tA):PW X (.BoolOp .Or [a] pos) tA:=by
 intro wh pins s σ H Q I h;refine isTrue_or (bA (ha pins s σ H Q I h) λc s1 e=>?_)
 cases c with
 |false=>exact isTrue_or_nil e
 |true=>exact e
theorem vg (ha:PT X a tA)(hb:PW X (.BoolOp .And (b::rest) pos) Ri):PW X (.BoolOp .And (a::b::rest) pos) (CXT tA Ri):=by
 intro wh pins s σ H Q I h;refine isTrue_and (bA (ha pins s σ H _ I h) λc s1 z'=>?_);obtain⟨H1,I1,q1⟩:=z'
 cases c with
 |true=>exact hb wh pins s1 σ H1 Q I1 q1
 |false=>exact⟨H1,I1,q1⟩
theorem eX (ha:PT X a tA)(hb:PW X (.BoolOp .Or (b::rest) pos) Ri):PW X (.BoolOp .Or (a::b::rest) pos) (aaL tA Ri):=by
 intro wh pins s σ H Q I h;refine isTrue_or (bA (ha pins s σ H _ I h) λc s1 z'=>?_);obtain⟨H1,I1,q1⟩:=z'
 cases c with
 |true=>exact⟨H1,I1,q1⟩
 |false=>exact hb wh pins s1 σ H1 Q I1 q1
theorem bR (ha:PT X a tA):PT X (.UnaryOp .Not a pos) (abK tA):=by
 intro pins s σ H Q I h;exact isTrue_not (ha pins s σ H (λc H1=>Q (!c) H1) I h)
noncomputable def aaP (ta tb:TE):TE:=λσ H Q=>ta σ H λx H1=>∃c,x=.bl c/\if c=true then tb σ H1 Q else Q (.bl false) H1
noncomputable def aaQ (ta:TE):TE:=λσ H Q=>ta σ H λx H1=>∃c,x=.bl c/\Q (.bl (!c)) H1
theorem eF {op}{t:TE}(h:PE X a t):PE X (.BoolOp op [a] pos) t:=λpins s σ H Q I hw=>BoolOp_one (h pins s σ H Q I hw)
theorem dB (ha:PE X a ta)(hb:PE X (.BoolOp .And (b::rest) pos) tb):PE X (.BoolOp .And (a::b::rest) pos) (aaP ta tb):=by
 intro pins s σ H Q I h;refine BoolOp_and (bA (ha pins s σ H _ I h) λv s1 z'=>?_);obtain⟨x,H1,I1,r1,q1⟩:=z';obtain⟨c,rfl,q1⟩:=q1
 cases r1
 refine wpAny_truthy_bool ?_
 cases c with
 |true=>exact hb pins s1 σ H1 Q I1 q1
 |false=>exact⟨.bl false,H1,I1,rfl,q1⟩
theorem vA (ha:PE X a ta):PE X (.UnaryOp .Not a pos) (aaQ ta):=by
 intro pins s σ H Q I h;refine UnaryOp_ (bA (ha pins s σ H _ I h) λv s1 z'=>?_);obtain⟨x,H1,I1,r1,q1⟩:=z';obtain⟨c,rfl,q1⟩:=q1
 cases r1
 exact not_of (wpAny_truthy_bool ⟨.bl (!c),H1,I1,rfl,q1⟩)
end
noncomputable def ba (K:PySem.W.Frag)(H:Hp)(a:Addr)(xs:List V):Prop :=
 Rd H a (.lst xs) \/
  ∃(o:Obj)(its:va)(n:Nat),K.lookup a=some o/\o.cls=.type "list"/\o.dict=none/\o.data=.seq its n/\its.size<=sizeLine/\aR xs its.toList
noncomputable def bx (K:PySem.W.Frag)(H:Hp)(a:Addr)(xs:List V):Prop :=
 Rd H a (.tup xs) \/
  ∃(o:Obj)(its:va)(n:Nat),K.lookup a=some o/\o.cls=.type "tuple"/\o.data=.seq its n/\its.size<=sizeLine/\aR xs its.toList
noncomputable def aaR:Value->Option V
 | .none=>some .non
 | .bool b=>some (.bl b)
 | .int i _=>some (.int i)
 | .str x _=>some (.str x)
 | .bytes b _=>some (.byt b)
 | .float b _=>some (.flt b)
 | .ref a=>some (.ref a)
 | .type n=>some (.ty n)
 |_=>none
theorem aD.abs {x:V}(r:aD x u):aaR u=some x:=by
 cases x with
 |non=>cases r;rfl
 |bl _=>cases r;rfl
 |int _=>obtain⟨t,rfl⟩:=r;rfl
 |str _=>obtain⟨t,rfl⟩:=r;rfl
 |byt _=>obtain⟨t,rfl⟩:=r;rfl
 |flt _=>obtain⟨t,rfl⟩:=r;rfl
 |ref _=>cases r;rfl
 |ty _=>cases r;rfl
variable {y:V}
theorem aD.inj {x:V}(r:aD x u)(q:aD y u):x=y:=Option.some.inj (r.abs.symm.trans q.abs)
theorem aR.inj:∀{xs ys:List V}{us:xF},aR xs us->aR ys us->xs=ys
 |_,_,_,.nil,.nil=>rfl
 |_,_,_,.cons r t,.cons r' t'=>by rw[r.inj r',aR.inj t t']
variable {K:PySem.W.Frag}
section
variable {X:Cx}{pins:List (Addr×Obj)}{σ:St}{H:Hp}{s:Fp}{a:Addr}{xs ys:List V}
theorem ba.of (h:H a=some (.lst xs)):ba K H a xs:=.inl (.inl h)
theorem bx.of (h:H a=some (.tup xs)):bx K H a xs:=.inl (.inl h)
theorem Inv.list (I:Inv X pins σ H s)(h:ba X.K H a xs):∃its:List Value,aR xs its/\PlainL s.heap a its.toArray/\xs.length<=sizeLine:=by
 rcases h with h|⟨o,its,n,hk,hc,hd,hs,hz,r⟩
 ·obtain⟨z,its,n,r,e⟩:=h.ok I.hok;exact⟨its,r,⟨_,n,e,rfl,rfl,rfl⟩,z⟩
 ·refine⟨its.toList,r,⟨o,n,I.kIn a o hk,hc,hd,by simpa using hs⟩,?_⟩;have e:=r.length;simp only[Array.length_toList] at e;omega
theorem Inv.tuple (I:Inv X pins σ H s)(h:bx X.K H a xs):∃its:List Value,aR xs its/\IsTup s.heap a its.toArray/\xs.length<=sizeLine:=by
 rcases h with h|⟨o,its,n,hk,hc,hs,hz,r⟩
 ·obtain⟨z,its,r,p⟩:=h.ok I.hok;exact⟨its,r,p,z⟩
 ·refine⟨its.toList,r,⟨o,I.kIn a o hk,hc,n,by simpa using hs⟩,?_⟩;have e:=r.length;simp only[Array.length_toList] at e;omega
theorem Inv.aaB (I:Inv X pins σ H s)(h:ba X.K H a xs)(h':ba X.K H a ys):xs=ys:=by
 obtain⟨its,r,⟨o,n,e,_,_,d⟩,_⟩:=I.list h;obtain⟨its',r',⟨o',n',e',_,_,d'⟩,_⟩:=I.list h';rw[e] at e';cases e';rw[d] at d'
 injection d' with d1 _
 have:its=its':=by simpa using congrArg Array.toList d1
 subst this;exact r.inj r'
theorem Inv.aaF (I:Inv X pins σ H s)(h:bx X.K H a xs)(h':bx X.K H a ys):xs=ys:=by
 obtain⟨its,r,⟨o,e,_,n,d⟩,_⟩:=I.tuple h;obtain⟨its',r',⟨o',e',_,n',d'⟩,_⟩:=I.tuple h';rw[e] at e';cases e';rw[d] at d'
 injection d' with d1 _
 have:its=its':=by simpa using congrArg Array.toList d1
 subst this;exact r.inj r'
end
noncomputable abbrev Cx.aaX (X:Cx)(E:oP):Cx:={X with xe:=E}
noncomputable abbrev Cx.nox (X:Cx):Cx:=X.aaX λ_ _=>False
theorem Cx.Ok.aaX (ok:X.Ok)(E:oP):(X.aaX E).Ok :=
 ⟨ok.mod,ok.kind,ok.glob,ok.blt,ok.above,ok.inj,ok.has,ok.cab,ok.hd,ok.frames,ok.stk,ok.exf,ok.bs,ok.bsz,ok.aa6,ok.abg,ok.aat,ok.frf⟩
theorem Cx.Ok.aaC {E:oP}(ok:(X.aaX E).Ok):X.Ok :=
 ⟨ok.mod,ok.kind,ok.glob,ok.blt,ok.above,ok.inj,ok.has,ok.cab,ok.hd,ok.frames,ok.stk,ok.exf,ok.bs,ok.bsz,ok.aa6,ok.abg,ok.aat,ok.frf⟩
section
variable {X:Cx}{pins:List (Addr×Obj)}{σ:St}{H:Hp}{s:Fp}{E:oP}
theorem Inv.aaX (I:Inv X pins σ H s)(E:oP):Inv (X.aaX E) pins σ H s:=⟨I.ok.aaX E,I.os,I.bare,I.base,I.loc,I.cell,I.free,I.aag,I.pin,I.hok,I.len⟩
theorem Inv.aaC (I:Inv (X.aaX E) pins σ H s):Inv X pins σ H s:=⟨I.ok.aaC,I.os,I.bare,I.base,I.loc,I.cell,I.free,I.aag,I.pin,I.hok,I.len⟩
theorem SP.aaC {D:Ends}{f:Flow}{s':Fp}(h:SP (X.aaX E) pins D f s'):SP X pins D f s':=by
 cases f with
 |next=>obtain⟨σ',H',I,q⟩:=h;exact⟨σ',H',I.aaC,q⟩
 |brk=>obtain⟨σ',H',I,q⟩:=h;exact⟨σ',H',I.aaC,q⟩
 |cont=>obtain⟨σ',H',I,q⟩:=h;exact⟨σ',H',I.aaC,q⟩
 |ret u=>obtain⟨v,σ',H',I,r,q⟩:=h;exact⟨v,σ',H',I.aaC,r,q⟩
theorem hV.nox {st:uH}{t:TS}(h:hV X.nox st t):hV X st t:=λpins s σ H D I hw =>
 wpAny_mono (h pins s σ H D (I.aaX _) hw) (λ_ _ q=>q.aaC) λ_ _ z=>False.elim z
end
section
variable {X:Cx}{st:Stmt}{rest:uH}{t u:TS}{e:Expr}{te:TE}{pos:Pos}
noncomputable def AH:TS:=λD σ H=>D.nx σ H
noncomputable def lF (t u:TS):TS:=λD σ H=>t {D with nx:=u D} σ H
theorem aF:hV X [] AH:=λ_ _ σ H _ I h=>wpAny_execs_nil ⟨σ,H,I,h⟩
theorem ao (h1:PS X st t)(h2:hV X rest u):hV X (st::rest) (lF t u):=by
 intro pins s σ H D I h;refine wpAny_execs_cons (bA (h1 pins s σ H {D with nx:=u D} I h) λf s1 q=>?_)
 cases f with
 |next =>
  obtain⟨σ',H',I',q⟩:=q;exact h2 pins s1 σ' H' D I' q
 |ret v=>exact q
 |brk=>exact q
 |cont=>exact q
theorem au (h1:PS X st t):hV X [st] t:=by
 intro pins s σ H D I h;refine wpAny_execs_cons (bA (h1 pins s σ H D I h) λf s1 q=>?_)
 cases f with
 |next=>exact wpAny_execs_nil q
 |ret v=>exact q
 |brk=>exact q
 |cont=>exact q
theorem Inv.quiet (I:Inv X pins σ H s):interactive X.env=false:=by simp[interactive,I.ok.kind]
noncomputable def aaS (te:TE):TS:=λD σ H=>te σ H λ_ H1=>D.nx σ H1
theorem fG (he:PE X e te)(hs:swapsWith e none pos.line X.env=pure false:=by rfl):PS X (.Expr e pos) (aaS te):=by
 intro pins s σ H D I h;exact wpAny_Expr_any (bA (he pins s σ H _ I h) λv s1 ⟨x,H1,I1,r1,q1⟩=>⟨σ,H1,I1,q1⟩) I.quiet hs
noncomputable def Bn (te:TE):TS:=λD σ H=>te σ H D.rt
theorem ay (he:PE X e te):PS X (.Return (some e) pos) (Bn te):=by
 intro pins s σ H D I h;exact wpAny_Return_some (bA (he pins s σ H _ I h) λv s1 ⟨x,H1,I1,r1,q1⟩=>⟨x,σ,H1,I1,r1,q1⟩)
noncomputable def Bq (c:TT)(t u:TS):TS:=λD σ H=>c σ H λb H1=>if b=true then t D σ H1 else u D σ H1
theorem bc {c:Expr}{a b:uH}{tc:TT}(hc:PT X c tc)(ha:hV X a t)(hb:hV X b u):PS X (.If c a b pos) (Bq tc t u):=by
 intro pins s σ H D I h;refine wpAny_If (bA (hc pins s σ H _ I h) λd s1 z'=>?_);obtain⟨H1,I1,q1⟩:=z'
 cases d with
 |true=>exact ha pins s1 σ H1 D I1 q1
 |false=>exact hb pins s1 σ H1 D I1 q1
noncomputable def qG:TS:=λ_ _ _=>False
theorem oW:PS X st qG:=λ_ _ _ _ _ _ h=>h.elim
theorem abf {YC:uH}:hV X YC qG:=λ_ _ _ _ _ _ h=>h.elim
end
noncomputable abbrev TG:=V->St->Hp->(St->Hp->Prop)->Prop
noncomputable abbrev DL:=List V->St->Hp->(St->Hp->Prop)->Prop
noncomputable def PG (X:Cx)(target:Expr)(t:TG):Prop :=
 ∀(pins:List (Addr×Obj))(s:Fp)(σ:St)(H:Hp)(v:V)(u:Value)(Q:St->Hp->Prop),Inv X pins σ H s->aD v u->t v σ H Q →
  wpAny (model X.prog X.w) X.A (assign target X.env u) (λ_ s'=>∃σ' H',Inv X pins σ' H' s'/\Q σ' H') X.xe s
noncomputable def Dp (X:Cx)(ts:wW)(t:DL):Prop :=
 ∀(pins:List (Addr×Obj))(s:Fp)(σ:St)(H:Hp)(vs:List V)(us:xF)(Q:St->Hp->Prop),Inv X pins σ H s->aR vs us->t vs σ H Q →
  wpAny (model X.prog X.w) X.A (assignInOrder ((assignEach ts X.env).map (·.2)) us) (λ_ s'=>∃σ' H',Inv X pins σ' H' s'/\Q σ' H') X.xe s
noncomputable abbrev AL:=V->V->V->Hp->(Hp->Prop)->Prop
noncomputable def BU (X:Cx)(t:AL):Prop :=
 ∀(pins:List (Addr×Obj))(s:Fp)(σ:St)(H:Hp)(o i v:V)(ov iv u:Value)(Q:Hp->Prop),Inv X pins σ H s->aD o ov->aD i iv->aD v u->t o i v H Q →
  wpAny (model X.prog X.w) X.A (setItem ov iv u) (λ_ s'=>∃H',Inv X pins σ H' s'/\Q H') X.xe s
noncomputable abbrev yC:=V->V->Hp->VK->Prop
noncomputable def Fi (X:Cx)(op:Operator)(t:yC):Prop :=
 ∀(pins:List (Addr×Obj))(s:Fp)(σ:St)(H:Hp)(x y:V)(v u:Value)(Q:VK),Inv X pins σ H s->aD x v->aD y u->t x y H Q →
  wpAny (model X.prog X.w) X.A (inplaceOp op v u) (EP X pins σ Q) X.xe s
variable {k:Nat}{g:TG}{body:uH}{tb:TS}
section
variable {X:Cx}{pos:Pos}
noncomputable def aZ (i:Nat):TG:=λv σ H Q=>Q (σ.set i (some v)) H
theorem aA {i:Nat}(hN:X.N.Nodup)(hi:X.N[i]?=some x)(hx:Ar X.env.scope x)(hf:X.fn x=true\/X.env.scope.names.lookup x=some .local:=by first|exact .inl rfl|exact .inr rfl|assumption):PG X (.Name x pos) (aZ i):=by
 intro pins s σ H v u Q I r h;exact wpAny_assign_Name (eR I hN hi hx r (λs' I'=>⟨_,H,I',h⟩) hf)
noncomputable def DH:DL:=λvs σ H Q=>vs=[]/\Q σ H
noncomputable def bX (t:TG)(u:DL):DL:=λvs σ H Q=>∃v r,vs=v::r/\t v σ H λσ' H'=>u r σ' H' Q
theorem bH:Dp X [] DH:=by
 intro pins s σ H vs us Q I r h;obtain⟨e,h⟩:=h;subst e
 cases r
 exact assignInOrder_nil ⟨σ,H,I,h⟩
theorem aC {es:wW}{t:TG}{u:DL}(h1:PG X e t)(h2:Dp X es u)
 (hs:(assignEach (e::es) X.env).map (·.2)=assign e X.env::(assignEach es X.env).map (·.2):=by rfl):Dp X (e::es) (bX t u):=by
 intro pins s σ H vs us Q I r h;obtain⟨v,vr,e1,h⟩:=h;subst e1
 cases r with
 |cons r rr =>
  rw[hs];refine assignInOrder_cons (bA (h1 pins s σ H _ _ _ I r h) λ_ s1 z'=>?_);obtain⟨σ1,H1,I1,q1⟩:=z';exact h2 pins s1 σ1 H1 _ _ Q I1 rr q1
noncomputable def gD (K:PySem.W.Frag)(n:Nat)(t:DL):TG:=λv σ H Q=>∃a xs,v=.ref a/\bx K H a xs/\xs.length=n/\t xs σ H Q
theorem cf {es:wW}{t:DL}{n:Nat}(hc:X.calm=true)(h:Dp X es t)
 (hn:(assignEach es X.env).length=n:=by rfl)(Jj:(assignEach es X.env).findIdx? (·.1)=none:=by rfl):PG X (.Tuple es k pos) (gD X.K n t):=by
 intro pins s σ H v u Q I r hw;obtain⟨a,xs,e1,hq,hl,hw⟩:=hw;subst e1
 cases r
 obtain⟨its,rv,ht,hz⟩:=I.tuple hq;refine assign_Tuple_tuple (I.ok.hd hc) ht (by simp[hn,<-hl,rv.length]) Jj λh' hx=>?_;have I1:Inv X pins σ H {s with heap:=h'}:=I.kept (t':=s.toks) λb o e=>hx b o (Nat.ne_of_lt (Heap.lt_size e)) e;exact h pins _ σ H xs _ Q I1 (by simpa using rv) hw
noncomputable def abM (to ti:TE)(t:AL):TG:=λv σ H Q=>to σ H λo H1=>ti σ H1 λi H2=>t o i v H2 λH3=>Q σ H3
theorem qj {o i:Expr}{to ti:TE}{t:AL}(ho:PE X o to)(hi:PE X i ti)(hs:BU X t)
 (ha:∀v,assign (.Subscript o i pos) X.env v=(do
  let ov <-holding [v] (eval o X.env)
  let iv <-holding [v,ov] (eval i X.env)
  standAt pos
  holding [v,ov,iv] (setItem ov iv v)
  release [v,ov,iv] []):=by intro _;rfl):PG X (.Subscript o i pos) (abM to ti t):=by
 intro pins s σ H v u Q I r h;rw[ha];refine wpAny_bind (wpAny_holding (bA (ho pins s σ H _ I h) λov s1 z'=>?_));obtain⟨x,H1,I1,r1,q1⟩:=z';refine wpAny_bind (wpAny_holding (bA (hi pins s1 σ H1 _ I1 q1) λiv s2 z'=>?_));obtain⟨y,H2,I2,r2,q2⟩:=z';refine wpAny_bind (wpAny_standAt (wpAny_bind (wpAny_holding (bA (hs pins s2 σ H2 x y v ov iv u _ I2 r1 r2 r q2) λ_ s3 z'=>?_))));obtain⟨H3,I3,q3⟩:=z';exact wpAny_release ⟨σ,H3,I3,q3⟩
noncomputable def iO (te:TE)(g:TG):TS:=λD σ H=>te σ H λx H1=>g x σ H1 D.nx
theorem i8 {tg:Expr}{te:TE}(he:PE X e te)(hg:PG X tg g)(hs:swapsWithSole [tg] e pos.line X.env=pure false:=by rfl)(hw:swappedStores [tg] e X.env=pure none:=by rfl)
 (h1:(assignEach [tg] X.env).map (·.2)=[assign tg X.env]:=by rfl):PS X (.Assign [tg] e pos) (iO te g):=by
 intro pins s σ H D I h;refine wpAny_Assign_stores (bA (he pins s σ H _ I h) λv s1 z'=>?_) hs hw;obtain⟨x,H1,I1,r1,q1⟩:=z';rw[h1];exact bA (hg pins s1 σ H1 x v _ I1 r1 q1) λ_ s2 q=>q
theorem aM {i:Nat}{x:Str}{e:Expr}{te:TE}{pos':Pos}(hN:X.N.Nodup)(hi:X.N[i]?=some x)(hx:Ar X.env.scope x)(he:PE X e te)(hs:swapsWith e (some (.Name x pos')) pos.line X.env=pure false:=by rfl)(hf:X.fn x=true\/X.env.scope.names.lookup x=some .local:=by first|exact .inl rfl|exact .inr rfl|assumption):
 PS X (.Assign [.Name x pos'] e pos) (iO te (aZ i)):=by
 intro pins s σ H D I h;refine wpAny_Assign_Name (bA (he pins s σ H _ I h) λv s1 z'=>?_) hs;obtain⟨y,H1,I1,r1,q1⟩:=z';exact eR I1 hN hi hx r1 (λs2 I2=>⟨_,H1,I2,q1⟩) hf
noncomputable def TyX (i j:Nat)(ta:TA):TS:=λD σ H=>ta σ H λvs H1=>∃v w,vs=[v,w]/\D.nx ((σ.set i (some v)).set j (some w)) H1
theorem vk {i j:Nat}{y:Str}{a b:Expr}{ta:TA}{px py pt:Pos} {kt k2 RS}(hc:X.calm=true)(hN:X.N.Nodup)(hi:X.N[i]?=some x)(hj:X.N[j]?=some y)(HR:i≠j)
 (hx:X.env.scope.names.lookup x=some .local)(hy:X.env.scope.names.lookup y=some .local)(ha:PA X [a,b] ta)
 (hw:swappedStores [.Tuple [.Name x px,.Name y py] kt pt] (.Tuple [a,b] k2 RS) X.env=pure (some [x,y]))
 (hs:swapsWithSole [.Tuple [.Name x px,.Name y py] kt pt] (.Tuple [a,b] k2 RS) pos.line X.env=pure false:=by rfl):
 PS X (.Assign [.Tuple [.Name x px,.Name y py] kt pt] (.Tuple [a,b] k2 RS) pos) (TyX i j ta):=by
 intro pins s σ H D I h;rw[exec_Assign_arm];refine wpAny_bind (wpAny_standAt ?_);rw[hs];refine wpAny_bind (wpAny_pure ?_);rw[if_neg (by decide)];refine wpAny_bind (Tuple_ (bA (ha _ pins s σ H _ I h) λus s1 z'=>?_));obtain⟨vs,H1,I1,r1,q1⟩:=z';obtain⟨v,w,e1,q1⟩:=q1;subst e1
 obtain⟨u1,u2,rfl,rv,GD⟩:∃u1 u2,us=[u1,u2]/\aD v u1/\aD w u2:=by
  cases r1 with
  |cons p q =>
   cases q with
   |cons p' q' =>
    cases q'
    exact⟨_,_,rfl,p,p'⟩
 refine wpAny_newObj_type ?_ ic;have I2:Inv X pins σ H1 {s1 with heap:=s1.heap.push {cls:=.type "tuple",data:=.seq [u1,u2].toArray} }:=I1.kept (t':=s1.toks) λb o e=>Heap.get?_push_of_some _ e;rw[hw];refine wpAny_bind (wpAny_pure ?_);show wpAny (model X.prog X.w) X.A (do rule "assign.swapped-stores";let items <-unpackItems (.ref s1.heap.objs.size) 2 none;assignInOrder [λv=>bindName X.env y v,λv=>bindName X.env x v] items.reverse;pure Flow.next) _ _ _;refine wpAny_bind (wpAny_rule (wpAny_bind (unpackItems_tuple (items:=#[u1,u2]) (I.ok.hd hc) (IsTup.new s1.heap _) λh' Rj=>?_)));have I3:=I2.kept (h':=h') (t':=s1.toks) λb o e=>Rj b o (Nat.ne_of_lt (Heap.lt_size e)) e;show wpAny _ _ (assignInOrder [λv=>bindName X.env y v,λv=>bindName X.env x v] [u2,u1]>>=λ_=>pure Flow.next) _ _ _;refine wpAny_bind (assignInOrder_cons (wpAny_bindName (eR I3 hN hj (.inl hy) GD (λs2 I4=>?_) (.inr hy))));refine assignInOrder_cons (wpAny_bindName (eR I4 hN hi (.inl hx) rv (λs3 I5=>assignInOrder_nil (wpAny_pure ?_)) (.inr hx)));rw[List.set_comm _ _ (Ne.symm HR)] at I5;exact⟨_,H1,I5,q1⟩
noncomputable def TmX (i:Nat)(te:TE)(ti:yC):TS:=λD σ H=>∃x,σ[i]?=some (some x)/\te σ H λy H1=>ti x y H1 λz H2=>D.nx (σ.set i (some z)) H2
theorem abw {i:Nat}{te:TE}{op:Operator}{ti:yC}{pos':Pos}(hN:X.N.Nodup)(hi:X.N[i]?=some x)(hx:Ar X.env.scope x)(he:PE X e te)(ho:Fi X op ti)(hf:X.fn x=true\/X.env.scope.names.lookup x=some .local:=by first|exact .inl rfl|exact .inr rfl|assumption):
 PS X (.AugAssign (.Name x pos') op e pos) (TmX i te ti):=by
 intro pins s σ H D I h;obtain⟨v,e1,h⟩:=h;obtain⟨m,hn,hl⟩:=I.loc
 have RT:CL X.env.scope x:=by rcases hx with k|k;exact .inl k;exact .inr (.inl k)
 obtain⟨u,r,l⟩:=hl i x v hi e1 RT;refine wpAny_AugAssign_Name ?_
 have go:wpAny (model X.prog X.w) X.A (eval e X.env) (λw s₂=>wpAny (model X.prog X.w) X.A (inplaceOp op u w) (λr s₃=>wpAny (model X.prog X.w) X.A (storeName X.env x r) (λ_=>SP X pins D .next) X.xe s₃) X.xe s₂) X.xe s:=by
  refine bA (he pins s σ H _ I h) λw s1 z'=>?_;obtain⟨y,H1,I1,r1,q1⟩:=z';refine bA (ho pins s1 σ H1 v y u w _ I1 r r1 q1) λz s2 z'=>?_;obtain⟨zv,H2,I2,r2,q2⟩:=z';exact eR I2 hN hi hx r2 (λs3 I3=>⟨_,H2,I3,q2⟩) hf
 rcases l with⟨hk,hm⟩|⟨hk,c,hc,Gm⟩
 ·exact wpAny_loadName_local I.ok.kind hk hn hm go
 ·rcases hk with hk|hk
  ·exact wpAny_loadName_cell I.ok.kind hk hc Gm go
  ·rcases hx with k|k
   ·have:X.env.scope.names.lookup x=some .free:=hk;rw[k] at this;cases this
   ·have:X.env.scope.names.lookup x=some .free:=hk;rw[k] at this;cases this
noncomputable def abN (f:Int->Int->Int):yC:=λx y H Q=>∃i j,x=.int i/\y=.int j/\Q (.int (f i j)) H
theorem aau:Fi X .Add (abN λi j=>i+j):=by
 intro pins s σ H x y v u Q I r1 r2 h;obtain⟨i,j,e1,e2,q⟩:=h;subst e1;subst e2;obtain⟨t,rfl⟩:=r1;obtain⟨t',rfl⟩:=r2;exact iadd_int ⟨.int _,H,I.tok _,⟨_,rfl⟩,q⟩
noncomputable def aa1 (c:TT)(tb:TS):TS:=λD σ H=>∃W:Nat->St->Hp->Prop,(∃m,W m σ H)/\∀m σ H,W m σ H →
 c σ H λb H1=>if b=true then ∃N:St->Hp->Prop,(∀σ' H',N σ' H'->∃m',m'<m/\W m' σ' H')/\tb {D with nx:=N,ct:=N,bk:=D.nx} σ H1 else D.nx σ H1
theorem nW {c:Expr}{tc:TT}(hp:PassesOwn (model X.prog X.w) X.A X.env X.xe)(hc:PT X c tc)(hb:hV X body tb):PS X (.While c body [] pos) (aa1 tc tb):=by
 intro pins s σ H D I h;obtain⟨W,⟨m0,w0⟩,turn⟩:=h;refine wpAny_While (codeAny_whileLoop (λn s'=>∃σ' H',Inv X pins σ' H' s'/\W n σ' H') ?_ m0 ⟨σ,H,I,w0⟩);rintro n s1 ⟨σ1,H1,I1,w1⟩;refine wpAny_passesOwn hp (bA (hc pins s1 σ1 H1 _ I1 (turn n σ1 H1 w1)) λb s2 z'=>?_);obtain⟨H2,I2,q2⟩:=z'
 cases b with
 |true =>
  obtain⟨N,hN,q2⟩:=q2;rw[if_pos rfl];refine wpAny_passesOwn hp (bA (hb pins s2 σ1 H2 _ I2 q2) λf s3 q3=>?_)
  cases f with
  |next =>
   obtain⟨σ3,H3,I3,n3⟩:=q3;obtain⟨m',hm,w3⟩:=hN σ3 H3 n3;exact⟨m',hm,σ3,H3,I3,w3⟩
  |cont =>
   obtain⟨σ3,H3,I3,n3⟩:=q3;obtain⟨m',hm,w3⟩:=hN σ3 H3 n3;exact⟨m',hm,σ3,H3,I3,w3⟩
  |brk=>exact q3
  |ret v=>exact q3
 |false =>
  rw[if_neg Bool.false_ne_true];exact wpAny_execs_nil ⟨σ1,H2,I2,q2⟩
end
structure It where
 go:Nat->Hp->Prop
 yld:Nat->Hp->V->Hp->Prop
 stop:Nat->Hp->Prop
noncomputable def cq (X:Cx)(pins:List (Addr×Obj))(H:Hp)(b:Addr):Prop :=
 H b=none/\b≠X.env.locals/\b∉X.fs/\(b∈X.ex\/X.s₀.heap.objs.size<=b)/\(∀x c,X.env.cells.lookup x=some c->c≠b)/\∀p∈X.pn++pins,p.1≠b
variable {H':Hp}
theorem Inv.aaK (I:Inv X pins σ H s)(hb:s.heap.objs.size<=b)(hn:H' b=none):cq X pins H' b:=by
 refine⟨hn,Nat.ne_of_gt (Nat.lt_of_lt_of_le I.lt hb),I.ab0 hb,.inr (Nat.le_trans I.sz hb),λx c e z=>?_,λp hp z=>?_⟩
 ·obtain⟨v,q⟩:=I.cell x c e;exact absurd (Nat.lt_of_lt_of_le q.lt (by rw[z];exact hb)) (Nat.lt_irrefl _)
 ·exact absurd (Nat.lt_of_lt_of_le (Heap.lt_size (I.pin p hp).1) (by rw[z];exact hb)) (Nat.lt_irrefl _)
structure Turn (P:zO)(w:World)(K:PySem.W.Frag)(tg:Expr)(J:It)(fp:List Addr)(it:Addr)(tn:Nat->Heap->Prop):Prop where
 mem:it∈fp
 obj:∀i h,tn i h->∀b∈fp,∃o,h.get? b=some o/\∀v,o.data≠.cell v
 keep:∀i h h',tn i h->(∀b∈fp,∀o,h.get? b=some o->h'.get? b=some o)->tn i h'
 item:∀(X:Cx),X.prog=P->X.w=w->X.K=K->X.calm=true->∀(i:Nat)(pins:List (Addr×Obj))(s:Fp)(σ:St)(H:Hp)(E:oP),Inv X pins σ H s->(∀b∈fp,cq X pins H b)->tn i s.heap->J.go i H →
  wpAny (model P w) X.A (pyNext (.ref it)) (λr s1=>∃u,r=some u /\
   wpAny (model P w) X.A (letOwnedTupleGo tg (.ref it) u) (λ_ s2=>∃x H',Inv X pins σ H' s2/\aD x u/\J.yld i H x H'/\tn (i+1) s2.heap/\∀b∈fp,H' b=none) E s1) E s
 done:∀(X:Cx),X.prog=P->X.w=w->X.K=K->X.calm=true->∀(i:Nat)(pins:List (Addr×Obj))(s:Fp)(σ:St)(H:Hp)(E:oP),Inv X pins σ H s->(∀b∈fp,cq X pins H b)->tn i s.heap->J.stop i H →
  wpAny (model P w) X.A (pyNext (.ref it)) (λr s1=>r=none/\Inv X pins σ H s1) E s
 self:∀(A:Around)(i:Nat)(s:Fp)(Q:oP)(E:oP),tn i s.heap->Q (.ref it) s->wpAny (model P w) A (pyIter (.ref it)) Q E s
noncomputable abbrev TI:=St->Hp->(It->Hp->Prop)->Prop
noncomputable def EK (X:Cx)(pins:List (Addr×Obj))(σ:St)(tg:Expr)(R:It->Hp->Prop)(Kb:Value)(s2:Fp):Prop :=
 ∃(it:Addr)(fp:List Addr)(tn:Nat->Heap->Prop)(J:It)(H':Hp),Kb=.ref it/\Inv X pins σ H' s2/\Turn X.prog X.w X.K tg J fp it tn/\tn 0 s2.heap/\(∀b∈fp,cq X pins H' b)/\R J H'
noncomputable def PI (X:Cx)(tg iter:Expr)(wi:TI):Prop :=
 ∀(pins:List (Addr×Obj))(s:Fp)(σ:St)(H:Hp)(R:It->Hp->Prop),Inv X pins σ H s->wi σ H R →
  wpAny (model X.prog X.w) X.A (eval iter X.env) (λv s1=>wpAny (model X.prog X.w) X.A (pyIter v) (EK X pins σ tg R) X.xe s1) X.xe s
theorem rX {E:oP}{s:Fp}{tg:Expr}{it:Addr}{o:Obj}{n:String}{vs:va}{Q:Unit->Shared->Prop}(ho:s.heap.get? it=some o)(hc:o.cls=.type n)(hd:o.data=.fields vs)
 (hn:["enumerate","zip","dict_itemiterator","dict_reverseitemiterator","odict_iterator","itertools.zip_longest","itertools.pairwise"].contains n=false)(hQ:Q () s):wpAny M A (letOwnedTupleGo tg (.ref it) u) Q E s:=by
 unfold letOwnedTupleGo
 cases tg <;> first
  |exact wpAny_pure hQ
  |(cases u <;> first
   |exact wpAny_pure hQ
   |(refine wpAny_bind (wpAny_load ho ?_)
     rw[hc,hd];show wpAny M A (if(["enumerate","zip","dict_itemiterator","dict_reverseitemiterator","odict_iterator","itertools.zip_longest","itertools.pairwise"].contains n&&vs[0]?==some (rawInt _))=true then _ else _) Q E s;rw[if_neg (by intro h;rw[hn,Bool.false_and] at h;cases h)]
     exact wpAny_pure hQ))
noncomputable def Dk (K:PySem.W.Frag)(a:Addr):It :=
 ⟨λi H=>∃xs x,ba K H a xs/\xs[i]?=some x,λi H x H'=>H'=H/\∀xs,ba K H a xs->xs[i]?=some x,λi H=>∃xs,ba K H a xs/\xs.length<=i⟩
noncomputable def E5 (K:PySem.W.Frag)(a:Addr):It :=
 ⟨λi H=>∃xs x,bx K H a xs/\xs[i]?=some x,λi H x H'=>H'=H/\∀xs,bx K H a xs->xs[i]?=some x,λi H=>∃xs,bx K H a xs/\xs.length<=i⟩
noncomputable def Bs (lo:Int)(n:Nat):It:=⟨λi _=>i<n,λi H x H'=>H'=H/\x=.int (lo+i),λi _=>n<=i⟩
theorem aaq {tg:Expr}(a it:Addr):Turn P w K tg (Dk K a) [it] it (λi h=>h.IsListIter it a i) where
 mem:=by simp
 obj:=λi h st b hb=>by
  have e:b=it:=by simpa using hb
  subst e;obtain⟨o,e,c,d⟩:=st;exact⟨o,e,λv z=>by rw[d] at z;cases z⟩
 keep:=λi h h' st k=>st.at λo e=>k it (by simp) o e
 item:=by
  intro X hP hw hK hc i pins s σ H E I hf st hg;subst hP hw hK;obtain⟨xs,x,hq,hx⟩:=hg;obtain⟨its,rv,p,hz⟩:=I.list hq;obtain⟨u,hu,ru⟩:=rv.get hx;obtain⟨f0,f1,f2,f3,f4,f5⟩:=hf it (by simp);refine wpAny_pyNext_list_item st p.isList (x:=u) (by simpa using hu) λh' GG sb=>?_;have I1:Inv X pins σ H {s with heap:=h'}:=I.turned (t':=s.toks) (λb o hb e=>(sb.2 b hb).trans e) f0 f1 f3 f4 f5;obtain⟨o,e,c,d⟩:=id GG;exact⟨u,rfl,rX (s:={s with heap:=h'}) e c d (by decide) ⟨x,H,I1,ru,⟨rfl,λys hy=>by rw[I.aaB hy hq];exact hx⟩,GG,λb hb=>(hf b hb).1⟩⟩
 done:=by
  intro X hP hw hK hc i pins s σ H E I hf st hg;subst hP hw hK;obtain⟨xs,hq,hx⟩:=hg;obtain⟨its,rv,p,hz⟩:=I.list hq;obtain⟨f0,f1,f2,f3,f4,f5⟩:=hf it (by simp);have hl:=rv.length;exact wpAny_pyNext_list_end (I.ok.hd hc) st p.isList (by simp;omega) λh' eb=>⟨rfl,I.turned (t':=s.toks) (λb o hb e=>eb b o hb e) f0 f1 f3 f4 f5⟩
 self:=λ_ _ _ _ _ st h=>wpAny_pyIter_listiter st h
theorem aar {tg:Expr}(a it:Addr):Turn P w K tg (E5 K a) [it] it (λi h=>h.IsTupleIter it a i) where
 mem:=by simp
 obj:=λi h st b hb=>by
  have e:b=it:=by simpa using hb
  subst e;obtain⟨o,e,c,d⟩:=st;exact⟨o,e,λv z=>by rw[d] at z;cases z⟩
 keep:=λi h h' st k=>st.at λo e=>k it (by simp) o e
 item:=by
  intro X hP hw hK hc i pins s σ H E I hf st hg;subst hP hw hK;obtain⟨xs,x,hq,hx⟩:=hg;obtain⟨its,rv,p,hz⟩:=I.tuple hq;obtain⟨u,hu,ru⟩:=rv.get hx;obtain⟨f0,f1,f2,f3,f4,f5⟩:=hf it (by simp);refine wpAny_pyNext_tuple_item st (show s.heap.IsTuple a its.toArray from p) (x:=u) (by simpa using hu) λh' GG sb=>?_;have I1:Inv X pins σ H {s with heap:=h'}:=I.turned (t':=s.toks) (λb o hb e=>(sb.2 b hb).trans e) f0 f1 f3 f4 f5;obtain⟨o,e,c,d⟩:=id GG;exact⟨u,rfl,rX (s:={s with heap:=h'}) e c d (by decide) ⟨x,H,I1,ru,⟨rfl,λys hy=>by rw[I.aaF hy hq];exact hx⟩,GG,λb hb=>(hf b hb).1⟩⟩
 done:=by
  intro X hP hw hK hc i pins s σ H E I hf st hg;subst hP hw hK;obtain⟨xs,hq,hx⟩:=hg;obtain⟨its,rv,p,hz⟩:=I.tuple hq;obtain⟨f0,f1,f2,f3,f4,f5⟩:=hf it (by simp);have hl:=rv.length;exact wpAny_pyNext_tuple_end (I.ok.hd hc) st (show s.heap.IsTuple a its.toArray from p) (by simp;omega) λh' eb=>⟨rfl,I.turned (t':=s.toks) (λb o hb e=>eb b o hb e) f0 f1 f3 f4 f5⟩
 self:=λ_ _ _ _ _ st h=>wpAny_pyIter_tupleiter st h
theorem abQ {tg:Expr}(it:Addr)(lo:Int)(n:Nat):Turn P w K tg (Bs lo n) [it] it (λi h=>IsRangeIter h it (lo+(i:Nat)*1) ((n:Int)-(i:Nat)) 1) where
 mem:=by simp
 obj:=λi h st b hb=>by
  have e:b=it:=by simpa using hb
  subst e
  exact⟨_,st,λv z=>by
   have z':Data.fields _=Data.cell v:=z
   cases z'⟩
 keep:=λi h h' st k=>k it (by simp) _ st
 item:=by
  intro X hP hw hK hc i pins s σ H E I hf st hg;subst hP hw hK;obtain⟨f0,f1,f2,f3,f4,f5⟩:=hf it (by simp);have W:=Walks.range (prog:=X.prog) (w:=X.w) (I.ok.hd hc) it lo 1 n;refine W.item i s _ _ hg st λv h' tk hv GG kk=>?_;obtain⟨t,rfl⟩:=hv;have I1:Inv X pins σ H {s with heap:=h',toks:=tk}:=I.turned (λb o hb e=>kk b o (by simpa using hb) e) f0 f1 f3 f4 f5;refine⟨_,rfl,rX (s:={s with heap:=h',toks:=tk}) (n:="range_iterator") GG rfl rfl (by decide) ⟨.int (lo+i),H,I1,⟨t,?_⟩,⟨rfl,rfl⟩,GG,λb hb=>(hf b hb).1⟩⟩;rw[Int.mul_one]
 done:=by
  intro X hP hw hK hc i pins s σ H E I hf st hg;subst hP hw hK;obtain⟨f0,f1,f2,f3,f4,f5⟩:=hf it (by simp);exact wpAny_pyNext_range_end (I.ok.hd hc) st (by have:n<=i:=hg;omega) λh' eb=>⟨rfl,I.turned (t':=s.toks) (λb o hb e=>eb b o hb e) f0 f1 f3 f4 f5⟩
 self:=λ_ _ _ _ _ st h=>wpAny_pyIter_rangeiter st h
variable {pos:Pos}{fp:List Addr}
section
variable {X:Cx}{tg:Expr}
noncomputable def Gth (K:PySem.W.Frag)(tl:TE):TI:=λσ H R=>tl σ H λx H1=>∃a,x=.ref a/\(∃xs,ba K H1 a xs)/\R (Dk K a) H1
noncomputable def abd (K:PySem.W.Frag)(tl:TE):TI:=λσ H R=>tl σ H λx H1=>∃a,x=.ref a/\(∃xs,bx K H1 a xs)/\R (E5 K a) H1
theorem cE {l:Expr}{tl:TE}(hl:PE X l tl):PI X tg l (Gth X.K tl):=by
 intro pins s σ H R I h;refine bA (hl pins s σ H _ I h) λv s1 z'=>?_;obtain⟨x,H1,I1,r1,q1⟩:=z';obtain⟨a,e,⟨xs,hq⟩,q⟩:=q1;subst e
 cases r1
 obtain⟨its,rv,p,hz⟩:=I1.list hq;refine wpAny_pyIter_list p.isList ?_;refine⟨s1.heap.objs.size,[s1.heap.objs.size],_,_,H1,rfl,I1.kept (t':=s1.toks) λb o e=>Heap.get?_push_of_some _ e,aaq a _,⟨_,Heap.get?_push_size _ rfl,rfl,rfl⟩,λb hb=>?_,q⟩
 have e:b=s1.heap.objs.size:=by simpa using hb
 subst e;exact I1.aaK (Nat.le_refl _) (I1.hok.fresh (Nat.le_refl _))
theorem qg {l:Expr}{tl:TE}(hl:PE X l tl):PI X tg l (abd X.K tl):=by
 intro pins s σ H R I h;refine bA (hl pins s σ H _ I h) λv s1 z'=>?_;obtain⟨x,H1,I1,r1,q1⟩:=z';obtain⟨a,e,⟨xs,hq⟩,q⟩:=q1;subst e
 cases r1
 obtain⟨its,rv,p,hz⟩:=I1.tuple hq;refine wpAny_pyIter_tuple (show s1.heap.IsTuple a its.toArray from p) ?_;refine⟨s1.heap.objs.size,[s1.heap.objs.size],_,_,H1,rfl,I1.kept (t':=s1.toks) λb o e=>Heap.get?_push_of_some _ e,aar a _,⟨_,Heap.get?_push_size _ rfl,rfl,rfl⟩,λb hb=>?_,q⟩
 have e:b=s1.heap.objs.size:=by simpa using hb
 subst e;exact I1.aaK (Nat.le_refl _) (I1.hok.fresh (Nat.le_refl _))
theorem abT {R:It->Hp->Prop}{E:oP}{lo hi:Int}{t u v:Tok}{tk:Nat}(I:Inv X pins σ H s)(h1:-(2^62)<=lo)(h2:lo<2^62)(h3:-(2^62)<=hi)(h4:hi<2^62)
 (q:R (Bs lo (hi-lo).toNat) H):wpAny (model X.prog X.w) X.A (pyIter (.ref s.heap.objs.size)) (EK X pins σ tg R) E {s with heap:=s.heap.push {cls:=.type "range",data:=.fields #[.int lo t,.int hi u,.int 1 v]},toks:=tk}:=by
 refine wpAny_pyIter_range (IsRange.new ..) (small_one h1 h2 h3 h4) ?_;have I1:Inv X pins σ H {s with heap:=s.heap.push {cls:=.type "range",data:=.fields #[.int lo t,.int hi u,.int 1 v]},toks:=tk}:=I.kept λb o e=>Heap.get?_push_of_some _ e
 refine⟨(s.heap.push {cls:=.type "range",data:=.fields #[.int lo t,.int hi u,.int 1 v]}).objs.size,[(s.heap.push {cls:=.type "range",data:=.fields #[.int lo t,.int hi u,.int 1 v]}).objs.size],_,_,H,rfl,
  I1.kept (t':=tk) λb o e=>Heap.get?_push_of_some _ e,abQ _ lo (hi-lo).toNat,?_,λb hb=>?_,q⟩
 ·have e1:lo+((0:Nat):Int)*1=lo:=by simp
  have e2:(((hi-lo).toNat:Nat):Int)-((0:Nat):Int)=Builtin.Range.rangeSize lo hi 1:=by rw[rangeSize_one];split <;> omega
  show IsRangeIter _ _ (lo+((0:Nat):Int)*1) ((((hi-lo).toNat:Nat):Int)-((0:Nat):Int)) 1;rw[e1,e2];exact Heap.get?_push_size _ rfl
 ·have e:b=(s.heap.push {cls:=.type "range",data:=.fields #[.int lo t,.int hi u,.int 1 v]}).objs.size:=by simpa using hb
  subst e;exact I1.aaK (Nat.le_refl _) (I1.hok.fresh (Nat.le_refl _))
noncomputable def wj (ta:TA):TI:=λσ H R=>ta σ H λvs H1=>∃j:Int,vs=[.int j]/\-(2^62)<=j/\j<2^62/\R (Bs 0 j.toNat) H1
theorem cX {a:Expr}{ta:TA}{p:Pos}(hg:Gl X "range")(hm:X.mg "range"=none)(ha:PA X [a] ta)(hs:starEach [a] X.env=[(false,eval a X.env)]:=by rfl):PI X tg (.Call (.Name "range" p) [a] [] pos) (wj ta):=by
 intro pins s σ H R I h;refine Call_ (dO I hg hm boot_range (PyProof.Rows.callWith_type1 (bA (ha pos pins s σ H _ I h) λus s1 z'=>?_) hs rfl));obtain⟨vs,H1,I1,r1,q1⟩:=z';obtain⟨j,e,q1,q2,q⟩:=q1;subst e
 cases r1 with
 |cons r rr =>
  cases rr
  obtain⟨t,rfl⟩:=r;exact call_range_1 (abT I1 (by omega) (by omega) q1 q2 (by simpa using q))
noncomputable def TGs (wi:TI)(g:TG)(tb:TS):TS:=λD σ H=>wi σ H λJ H1=>∃W:Nat->Nat->St->Hp->Prop,(∃m,W 0 m σ H1)/\∀i m σ H,W i m σ H →
 (J.stop i H/\D.nx σ H)\/(J.go i H/\∃N:St->Hp->Prop,(∀σ' H',N σ' H'->∃m',m'<m/\W (i+1) m' σ' H')/\∀x H',J.yld i H x H'->g x σ H' λσ2 H2=>tb {D with nx:=N,ct:=N,bk:=D.nx} σ2 H2)
noncomputable def di (fp:List Addr)(h:Heap):List (Addr×Obj):=fp.filterMap λb=>(h.get? b).map λo=>(b,o)
theorem cg {o:Obj}(hb:b∈fp)(e:h.get? b=some o):(b,o)∈di fp h:=List.mem_filterMap.mpr ⟨b,hb,by rw[e];rfl⟩
theorem mx {p:Addr×Obj}(hp:p∈di fp h):p.1∈fp/\h.get? p.1=some p.2:=by
 obtain⟨b,hb,e⟩:=List.mem_filterMap.mp hp
 cases q:h.get? b with
 |none=>rw[q] at e;cases e
 |some o =>
  rw[q] at e;have e':(b,o)=p:=Option.some.inj e;subst e';exact⟨hb,q⟩
theorem Inv.pinned (I:Inv X pins σ H s)(hf:∀b∈fp,cq X pins H b)(ho:∀b∈fp,∃o,s.heap.get? b=some o/\∀v,o.data≠.cell v):Inv X (pins++di fp s.heap) σ H s :=
 I.aap λp hp=>(List.mem_append.mp hp).elim (λz=>I.pin p (List.mem_append_right _ z)) λz=>by
   obtain⟨hb,e⟩:=mx z;obtain⟨f0,f1,f2,_⟩:=hf p.1 hb;obtain⟨o,e',d⟩:=ho p.1 hb;rw[e] at e';cases e';exact⟨e,f0,f1,f2,d⟩
theorem Inv.aai {pl:List (Addr×Obj)}(I:Inv X (pins++pl) σ H s):Inv X pins σ H s:=I.aap λp hp=>I.pin p (List.mem_append_right _ (List.mem_append_left _ hp))
theorem dJ {iter:Expr}{wi:TI}(hp:PassesOwn (model X.prog X.w) X.A X.env X.xe)(hc:X.calm=true)(hi:PI X tg iter wi)(hg:PG X tg g)(hb:hV X body tb)
 (hs:∀x,foldedSetIterable iter X.env x=pure x:=by intro _;rfl):PS X (.For tg iter body [] pos) (TGs wi g tb):=by
 intro pins s σ H D I h;refine wpAny_For (bA (hi pins s σ H _ I h) λv s1 h1=>bA h1 λKb s2 h2=>?_) hs;obtain⟨it,fp,tn,J,H2,e,I2,T,GX,f2,W,⟨m0,w0⟩,turn⟩:=h2;subst e;have K6:∀{H':Hp},(∀b∈fp,H' b=none)->∀b∈fp,cq X pins H' b:=λhn b hb=>⟨hn b hb,(f2 b hb).2⟩;refine codeAny_forLoop_any (λn s'=>∃i σ' H',Inv X pins σ' H' s'/\tn i s'.heap/\(∀b∈fp,H' b=none)/\W i n σ' H') ?_ m0 ⟨0,σ,H2,I2,GX,λb hb=>(f2 b hb).1,w0⟩;rintro n s3 ⟨i,σ3,H3,I3,Wy,Wz,w3⟩
 rcases turn i n σ3 H3 w3 with⟨stop,qn⟩|⟨go,N,hN,step⟩
 ·refine wpAny_passesOwn hp (bA (T.done X rfl rfl rfl hc i pins s3 σ3 H3 X.xe I3 (K6 Wz) Wy stop) λr s4 z'=>?_);obtain⟨hr,I4⟩:=z';subst hr;exact wpAny_execs_nil ⟨σ3,H3,I4,qn⟩
 ·refine wpAny_passesOwn hp (bA (T.item X rfl rfl rfl hc i pins s3 σ3 H3 X.xe I3 (K6 Wz) Wy go) λr s4 z'=>?_);obtain⟨u,hr,h4⟩:=z';subst hr;refine wpAny_passesOwn hp (bA h4 λ_ s5 z'=>?_);obtain⟨x,H5,I5,r5,y5,MN,RU⟩:=z';have YD:=I5.pinned (K6 RU) (T.obj _ _ MN);refine wpAny_passesOwn hp (bA (hg _ s5 σ3 H5 x u _ YD r5 (step x H5 y5)) λ_ s6 z'=>?_);obtain⟨σ6,H6,I6,q6⟩:=z';refine wpAny_passesOwn hp (bA (hb _ s6 σ6 H6 _ I6 q6) λf s7 q7=>?_)
  have again:∀{σ7:St}{H7:Hp},Inv X (pins++di fp s5.heap) σ7 H7 s7->N σ7 H7->∃m,m<n/\∃i σ' H',Inv X pins σ' H' s7/\tn i s7.heap/\(∀b∈fp,H' b=none)/\W i m σ' H':=λ{σ7 H7} I7 n7=>by
   obtain⟨m',hm,w7⟩:=hN σ7 H7 n7;refine⟨m',hm,i+1,σ7,H7,I7.aai,T.keep _ _ _ MN λb hb o e=>(I7.pin (b,o) (List.mem_append_right _ (List.mem_append_right _ (cg hb e)))).1,λb hb=>?_,w7⟩;obtain⟨o,e,d⟩:=T.obj _ _ MN b hb;exact(I7.pin (b,o) (List.mem_append_right _ (List.mem_append_right _ (cg hb e)))).2.1
  cases f with
  |next=>obtain⟨σ7,H7,I7,n7⟩:=q7;exact again I7 n7
  |cont=>obtain⟨σ7,H7,I7,n7⟩:=q7;exact again I7 n7
  |brk=>obtain⟨σ7,H7,I7,q7⟩:=q7;exact⟨σ7,H7,I7.aai,q7⟩
  |ret v=>obtain⟨x7,σ7,H7,I7,r7,q7⟩:=q7;exact⟨x7,σ7,H7,I7.aai,r7,q7⟩
end
theorem iV {lo:Int}{n:Nat}{D:Ends}(Pv:Nat->St->Hp->Prop)(h0:Pv 0 σ H)
 (hs:∀i σ H,i<n->Pv i σ H->g (.int (lo+i)) σ H λσ2 H2=>tb {D with nx:=Pv (i+1),ct:=Pv (i+1),bk:=D.nx} σ2 H2)(hd:∀σ H,Pv n σ H->D.nx σ H):
 ∃W:Nat->Nat->St->Hp->Prop,(∃m,W 0 m σ H)/\∀i m σ H,W i m σ H →
  ((Bs lo n).stop i H/\D.nx σ H)\/((Bs lo n).go i H/\∃N:St->Hp->Prop,(∀σ' H',N σ' H'->∃m',m'<m/\W (i+1) m' σ' H')/\∀x H',(Bs lo n).yld i H x H'->g x σ H' λσ2 H2=>tb {D with nx:=N,ct:=N,bk:=D.nx} σ2 H2):=by
 refine⟨λi m σ H=>m=n-i/\i<=n/\Pv i σ H,⟨n,by simp,Nat.zero_le _,h0⟩,?_⟩;rintro i m σ H ⟨rfl,hi,p⟩
 by_cases FY:i<n
 ·refine .inr ⟨FY,Pv (i+1),λσ' H' p'=>⟨n-(i+1),by omega,rfl,FY,p'⟩,λx H' y=>?_⟩;obtain⟨e,y⟩:=y;subst e y;exact hs i σ _ FY p
 ·have e:i=n:=by omega
  subst e;exact .inl ⟨Nat.le_refl _,hd σ H p⟩
noncomputable abbrev R2:=V->V->Hp->VK->Prop
noncomputable def gF (X:Cx)(f:Value->Value->Sem Value)(r:R2):Prop :=
 ∀(pins:List (Addr×Obj))(s:Fp)(σ:St)(H:Hp)(x y:V)(v u:Value)(Q:VK),Inv X pins σ H s->aD x v->aD y u->r x y H Q →
  wpAny (model X.prog X.w) X.A (f v u) (EP X pins σ Q) X.xe s
noncomputable def D6 (X:Cx)(f:Value->Sem Value)(r:V->Hp->VK->Prop):Prop :=
 ∀(pins:List (Addr×Obj))(s:Fp)(σ:St)(H:Hp)(x:V)(v:Value)(Q:VK),Inv X pins σ H s->aD x v->r x H Q →
  wpAny (model X.prog X.w) X.A (f v) (EP X pins σ Q) X.xe s
noncomputable def dE (X:Cx)(f:Value)(r:List V->Hp->VK->Prop):Prop :=
 ∀(pins:List (Addr×Obj))(s:Fp)(σ:St)(H:Hp)(xs:List V)(us:xF)(Q:VK),Inv X pins σ H s->aR xs us->r xs H Q →
  wpAny (model X.prog X.w) X.A (call f us) (EP X pins σ Q) X.xe s
noncomputable def abh (X:Cx)(r:V->Hp->(Bool->Hp->Prop)->Prop):Prop :=
 ∀(pins:List (Addr×Obj))(s:Fp)(σ:St)(H:Hp)(x:V)(v:Value)(Q:Bool->Hp->Prop),Inv X pins σ H s->aD x v->r x H Q →
  wpAny (model X.prog X.w) X.A (truthy v) (TP X pins σ Q) X.xe s
noncomputable def jB (r:R2)(ta tb:TE):TE:=λσ H Q=>ta σ H λx H1=>tb σ H1 λy H2=>r x y H2 Q
noncomputable def aaV (r:V->Hp->VK->Prop)(ta:TE):TE:=λσ H Q=>ta σ H λx H1=>r x H1 Q
noncomputable def rI (C:Int->Int->Prop)(g:Int->Int->V):R2:=λx y H Q=>∃i j,x=.int i/\y=.int j/\C i j/\Q (g i j) H
noncomputable def pD (g:Int->Int->V):R2:=λx y H Q=>∃i j,x=.int i/\y=.int j/\Q (g i j) H
noncomputable def rU (g:Int->V):V->Hp->VK->Prop:=λx H Q=>∃i,x=.int i/\Q (g i) H
variable {f:Value->Value->Sem Value}
section
variable {X:Cx}{a b c:Expr}{ta tb tc:TE}{pos:Pos}
theorem AW (ha:PE X a ta)(hb:PE X b tb){R:V->V->Hp->Prop}(I:Inv X pins σ H s)
 (h:ta σ H λx H1=>tb σ H1 λy H2=>R x y H2){Q:oP}
 (hf:∀v u s2 x y H2,Inv X pins σ H2 s2->aD x v->aD y u->R x y H2->wpAny (model X.prog X.w) X.A (f v u) Q X.xe s2):
 wpAny (model X.prog X.w) X.A (eval a X.env) (λv s₁=>wpAny (model X.prog X.w) X.A (eval b X.env) (λu s₂=>wpAny (model X.prog X.w) X.A (f v u) Q X.xe s₂) X.xe s₁) X.xe s:=by
 refine bA (ha pins s σ H _ I h) λv s1 z'=>?_;obtain⟨x,H1,I1,r1,q1⟩:=z';refine bA (hb pins s1 σ H1 _ I1 q1) λu s2 z'=>?_;obtain⟨y,H2,I2,r2,q2⟩:=z';exact hf v u s2 x y H2 I2 r1 r2 q2
theorem aH {op:Operator}{r:R2}(ho:gF X (binaryOp op) r)(ha:PE X a ta)(hb:PE X b tb):PE X (.BinOp a op b pos) (jB r ta tb):=by
 intro pins s σ H Q I h;exact wpAny_BinOp (AW ha hb I h λv u s2 x y H2 I2 rx ry q=>ho pins s2 σ H2 x y v u Q I2 rx ry q)
theorem vT {op:UnaryOp}{r:V->Hp->VK->Prop}(ho:D6 X (unaryOp op) r)(ha:PE X a ta):PE X (.UnaryOp op a pos) (aaV r ta):=by
 intro pins s σ H Q I h;exact UnaryOp_ (bA (ha pins s σ H _ I h) λv s1 ⟨x,H1,I1,r1,q1⟩=>ho pins s1 σ H1 x v Q I1 r1 q1)
theorem Ae {C:Int->Int->Prop}{g:Int->Int->Int}
 (rule:∀(i j:Int)(t u:Tok)(s:Fp)(Q:oP)(E:oP),C i j->Q (.int (g i j) s.toks) {s with toks:=s.toks+1}->wpAny (model X.prog X.w) X.A (f (.int i t) (.int j u)) Q E s):
 gF X f (rI C λi j=>.int (g i j)):=by
 intro pins s σ H x y v u Q I rx ry h;obtain⟨i,j,rfl,rfl,hc,q⟩:=h;obtain⟨t,rfl⟩:=rx;obtain⟨t',rfl⟩:=ry;exact rule i j t t' s _ _ hc ⟨.int (g i j),H,I.tok _,⟨_,rfl⟩,q⟩
theorem BC {g:Int->Int->Int}
 (rule:∀(i j:Int)(t u:Tok)(s:Fp)(Q:oP)(E:oP),Q (.int (g i j) s.toks) {s with toks:=s.toks+1}->wpAny (model X.prog X.w) X.A (f (.int i t) (.int j u)) Q E s):
 gF X f (pD λi j=>.int (g i j)):=by
 intro pins s σ H x y v u Q I rx ry h;obtain⟨i,j,rfl,rfl,q⟩:=h;obtain⟨t,rfl⟩:=rx;obtain⟨t',rfl⟩:=ry;exact rule i j t t' s _ _ ⟨.int (g i j),H,I.tok _,⟨_,rfl⟩,q⟩
theorem yf {g:Int->Int->Bool}
 (rule:∀(i j:Int)(t u:Tok)(s:Fp)(Q:oP)(E:oP),Q (.bool (g i j)) s->wpAny (model X.prog X.w) X.A (f (.int i t) (.int j u)) Q E s):
 gF X f (pD λi j=>.bl (g i j)):=by
 intro pins s σ H x y v u Q I rx ry h;obtain⟨i,j,rfl,rfl,q⟩:=h;obtain⟨t,rfl⟩:=rx;obtain⟨t',rfl⟩:=ry;exact rule i j t t' s _ _ ⟨.bl (g i j),H,I,rfl,q⟩
noncomputable def aaZ (i j:Int):Prop:=0<j/\j<1073741824
noncomputable def BE (i j:Int):Prop:=0<=j/\j<=1000000/\i.natAbs<2^64
noncomputable def t9 (i j:Int):Prop:=(-(2^64)<i/\i<2^64)\/(-(2^64)<j/\j<2^64)
theorem t9.ok {i j:Int}(h:t9 i j):IntMulOk i j:=by
 rcases h with⟨h1,h2⟩|⟨h1,h2⟩
 ·exact .of_left (intBits_le_64 h1 h2)
 ·exact .of_right (intBits_le_64 h1 h2)
theorem cV:gF X (binaryOp .Add) (pD λi j=>.int (i+j)):=BC λ_ _ _ _ _ _ _ q=>add_int q
theorem gU:gF X (binaryOp .Sub) (pD λi j=>.int (i-j)):=BC λ_ _ _ _ _ _ _ q=>sub_int q
theorem eI:gF X (binaryOp .Mult) (rI t9 λi j=>.int (i*j)):=Ae λ_ _ _ _ _ _ _ hc q=>mul_int q hc.ok
theorem abU:gF X (binaryOp .FloorDiv) (rI aaZ λi j=>.int (i/j)):=Ae λi j _ _ _ _ _ hc q=>by
 have h1:(0:Int)<j:=hc.1;have h2:j<1073741824:=hc.2;exact floordiv_int (by omega) (by rw[Int.fdiv_eq_ediv_of_nonneg i (by omega)];exact q) (.inl (PyProof.noPylong_small (by omega)))
theorem dU:gF X (binaryOp .Mod) (rI (λ_ j=>0<j) λi j=>.int (i%j)):=Ae λi j _ _ _ _ _ hc q=>by
 have h1:(0:Int)<j:=hc;exact mod_int' (by omega) (by rw[Int.fmod_eq_emod_of_nonneg i (by omega)];exact q)
theorem rL:gF X (binaryOp .Mod) (rI (λ_ j=>j≠0) λi j=>.int (i.fmod j)):=Ae λ_ _ _ _ _ _ _ hc q=>mod_int' hc q
theorem gQ:gF X (binaryOp .Pow) (rI BE λi j=>.int (i^j.toNat)):=Ae λ_ _ _ _ _ _ _ hc q=>pow_int_small hc.1 hc.2.1 hc.2.2 q
theorem abV {f:Value->Sem Value}{g:Int->Int}
 (rule:∀(i:Int)(t:Tok)(s:Fp)(Q:oP)(E:oP),Q (.int (g i) s.toks) {s with toks:=s.toks+1}->wpAny (model X.prog X.w) X.A (f (.int i t)) Q E s):
 D6 X f (rU λi=>.int (g i)):=by
 intro pins s σ H x v Q I rx h;obtain⟨i,rfl,q⟩:=h;obtain⟨t,rfl⟩:=rx;exact rule i t s _ _ ⟨.int (g i),H,I.tok _,⟨_,rfl⟩,q⟩
theorem pZ:D6 X (unaryOp .USub) (rU λi=>.int (-i)):=abV λ_ _ _ _ _ q=>neg_int q
end
noncomputable def BR:V->V->Bool
 | .non,.non=>true| .non,.int _=>true| .int _,.non=>true| .non,.bl _=>true| .bl _,.non=>true| .non,.str _=>true| .str _,.non=>true
 | .int _,.int _=>true| .bl _,.bl _=>true| .str _,.str _=>true| .byt _,.byt _=>true
 | .int _,.str _=>true| .str _,.int _=>true| .bl _,.str _=>true| .str _,.bl _=>true
 |_,_=>false
noncomputable def Bb:R2:=λx y H Q=>BR x y=true/\Q (.bl (decide (x=y))) H
noncomputable def rNe:R2:=λx y H Q=>BR x y=true/\Q (.bl (!decide (x=y))) H
theorem jw {i j:Int}:decide (V.int i=V.int j)=(i==j):=by
 rw[Bool.eq_iff_iff];simp
theorem vM {i j:Bool}:decide (V.bl i=V.bl j)=(i==j):=by
 rw[Bool.eq_iff_iff];simp
theorem sj {i j:Str}:decide (V.str i=V.str j)=(i==j):=by
 rw[Bool.eq_iff_iff];simp
theorem rZ {i j:Array UInt8}:decide (V.byt i=V.byt j)=(i.toList==j.toList):=by
 rw[Bool.eq_iff_iff]
 cases i
 cases j
 simp
variable {Q:VK}
section
variable {X:Cx}{a b c:Expr}{ta tb tc:TE}{pos:Pos}
theorem bu {k k':Bool}(I:Inv X pins σ H s)(q:Q (.bl k) H)(e:k=k'):EP X pins σ Q (.bool k') s:=by
 subst e;exact⟨.bl k,H,I,rfl,q⟩
theorem du:gF X (compareOp .Eq) Bb:=by
 intro pins s σ H x y v u Q I rx ry h;obtain⟨hs,q⟩:=h
 cases x with
 |non =>
  cases rx
  cases y with
  |non=>cases ry;exact PySem.EqNone.eq_none_none (bu I q (by simp))
  |bl j=>cases ry;exact PySem.EqNone.eq_none_bool (bu I q (by simp))
  |int j=>obtain⟨t',rfl⟩:=ry;exact PySem.EqNone.eq_none_int (bu I q (by simp))
  |str j=>obtain⟨t',rfl⟩:=ry;exact PySem.EqNone.eq_none_str (bu I q (by simp))
  |_=>exact absurd (show false=true from hs) Bool.false_ne_true
 |bl i =>
  cases rx
  cases y with
  |non=>cases ry;exact PySem.EqNone.eq_bool_none (bu I q (by simp))
  |bl j=>cases ry;exact eq_bool (bu I q vM)
  |str j=>obtain⟨t',rfl⟩:=ry;exact PySem.EqMixed.eq_bool_str (bu I q (by simp))
  |_=>exact absurd (show false=true from hs) Bool.false_ne_true
 |int i =>
  obtain⟨t,rfl⟩:=rx
  cases y with
  |non=>cases ry;exact PySem.EqNone.eq_int_none (bu I q (by simp))
  |int j=>obtain⟨t',rfl⟩:=ry;exact eq_int (bu I q jw)
  |str j=>obtain⟨t',rfl⟩:=ry;exact PySem.EqMixed.eq_int_str (bu I q (by simp))
  |_=>exact absurd (show false=true from hs) Bool.false_ne_true
 |str i =>
  obtain⟨t,rfl⟩:=rx
  cases y with
  |non=>cases ry;exact PySem.EqNone.eq_str_none (bu I q (by simp))
  |bl j=>cases ry;exact PySem.EqMixed.eq_str_bool (bu I q (by simp))
  |int j=>obtain⟨t',rfl⟩:=ry;exact PySem.EqMixed.eq_str_int (bu I q (by simp))
  |str j=>obtain⟨t',rfl⟩:=ry;exact eq_str (bu I q sj)
  |_=>exact absurd (show false=true from hs) Bool.false_ne_true
 |byt i =>
  obtain⟨t,rfl⟩:=rx
  cases y with
  |byt j=>obtain⟨t',rfl⟩:=ry;exact PySem.W.eq_bytes (bu I q rZ)
  |_=>exact absurd (show false=true from hs) Bool.false_ne_true
 |_=>cases y <;> exact absurd (show false=true from hs) Bool.false_ne_true
theorem gI:gF X (compareOp .NotEq) rNe:=by
 intro pins s σ H x y v u Q I rx ry h;obtain⟨hs,q⟩:=h
 cases x with
 |non =>
  cases rx
  cases y with
  |non=>cases ry;exact PySem.EqNone.ne_none_none (bu I q (by simp))
  |bl j=>cases ry;exact PySem.EqNone.ne_none_bool (bu I q (by simp))
  |int j=>obtain⟨t',rfl⟩:=ry;exact PySem.EqNone.ne_none_int (bu I q (by simp))
  |str j=>obtain⟨t',rfl⟩:=ry;exact PySem.EqNone.ne_none_str (bu I q (by simp))
  |_=>exact absurd (show false=true from hs) Bool.false_ne_true
 |bl i =>
  cases rx
  cases y with
  |non=>cases ry;exact PySem.EqNone.ne_bool_none (bu I q (by simp))
  |bl j=>cases ry;exact ne_bool (bu I q (congrArg not vM))
  |str j=>obtain⟨t',rfl⟩:=ry;exact PySem.EqMixed.ne_bool_str (bu I q (by simp))
  |_=>exact absurd (show false=true from hs) Bool.false_ne_true
 |int i =>
  obtain⟨t,rfl⟩:=rx
  cases y with
  |non=>cases ry;exact PySem.EqNone.ne_int_none (bu I q (by simp))
  |int j=>obtain⟨t',rfl⟩:=ry;exact ne_int (bu I q (congrArg not jw))
  |str j=>obtain⟨t',rfl⟩:=ry;exact PySem.EqMixed.ne_int_str (bu I q (by simp))
  |_=>exact absurd (show false=true from hs) Bool.false_ne_true
 |str i =>
  obtain⟨t,rfl⟩:=rx
  cases y with
  |non=>cases ry;exact PySem.EqNone.ne_str_none (bu I q (by simp))
  |bl j=>cases ry;exact PySem.EqMixed.ne_str_bool (bu I q (by simp))
  |int j=>obtain⟨t',rfl⟩:=ry;exact PySem.EqMixed.ne_str_int (bu I q (by simp))
  |str j=>obtain⟨t',rfl⟩:=ry;exact ne_str (bu I q (congrArg not sj))
  |_=>exact absurd (show false=true from hs) Bool.false_ne_true
 |byt i =>
  obtain⟨t,rfl⟩:=rx
  cases y with
  |byt j=>obtain⟨t',rfl⟩:=ry;exact PySem.W.ne_bytes (bu I q (congrArg not rZ))
  |_=>exact absurd (show false=true from hs) Bool.false_ne_true
 |_=>cases y <;> exact absurd (show false=true from hs) Bool.false_ne_true
theorem jE:gF X (compareOp .Lt) (pD λi j=>.bl (decide (i<j))):=yf λ_ _ _ _ _ _ _ q=>lt_int q
theorem fK:gF X (compareOp .LtE) (pD λi j=>.bl (decide (i<=j))):=yf λ_ _ _ _ _ _ _ q=>le_int q
theorem sQ:gF X (compareOp .Gt) (pD λi j=>.bl (decide (j<i))):=yf λ_ _ _ _ _ _ _ q=>gt_int q
theorem zF:gF X (compareOp .GtE) (pD λi j=>.bl (decide (j<=i))):=yf λ_ _ _ _ _ _ _ q=>ge_int q
theorem vE:gF X (compareOp .Is) (λx y H Q=>y=.non/\Q (.bl (decide (x=.non))) H):=by
 intro pins s σ H x y v u Q I rx ry h;obtain⟨rfl,q⟩:=h
 cases ry
 refine is_none_gen (bu I q ?_)
 cases x <;> first
  |(cases rx;rfl)
  |(obtain⟨t,rfl⟩:=rx;rfl)
theorem rV:gF X (compareOp .IsNot) (λx y H Q=>y=.non/\Q (.bl (!decide (x=.non))) H):=by
 intro pins s σ H x y v u Q I rx ry h;obtain⟨rfl,q⟩:=h
 cases ry
 refine isnot_none_gen (bu I q ?_)
 cases x <;> first
  |(cases rx;rfl)
  |(obtain⟨t,rfl⟩:=rx;rfl)
theorem aK (b:Expr)(h:op ≠ .In:=by decide)(h2:op ≠ .NotIn:=by decide):behindInMarks op b=false:=by
 have e1:(op==CmpOp.In)=false:=by cases op <;> first|rfl|exact absurd rfl h
 have e2:(op==CmpOp.NotIn)=false:=by cases op <;> first|rfl|exact absurd rfl h2
 cases b <;> simp[behindInMarks,e1,e2]
theorem dC {op:CmpOp}{r:R2}(ho:gF X (compareOp op) r)(ha:PE X a ta)(hb:PE X b tb)(hm:behindInMarks op b=false):PE X (.Compare a [op] [b] pos) (jB r ta tb):=by
 intro pins s σ H Q I h;exact wpAny_Compare1 (AW ha hb I h λv u s2 x y H2 I2 rx ry q=>ho pins s2 σ H2 x y v u Q I2 rx ry q) hm
noncomputable def rn (t:TE):TT:=λσ H Q=>t σ H λx H'=>∃k,x=.bl k/\Q k H'
theorem aI {op:CmpOp}{r:R2}(ho:gF X (compareOp op) r)(ha:PE X a ta)(hb:PE X b tb)(hm:behindInMarks op b=false):PT X (.Compare a [op] [b] pos) (rn (jB r ta tb)):=by
 intro pins s σ H Q I h
 refine wpAny_isTrue_Compare1 (bA (ha pins s σ H _ I h) λv s1 ⟨x,H1,I1,r1,q1⟩=>bA (hb pins s1 σ H1 _ I1 q1) λu s2 ⟨y,H2,I2,r2,q2⟩ =>
  bA (ho pins s2 σ H2 x y v u _ I2 r1 r2 q2) λc s3 ⟨z,H3,I3,r3,k,e,q3⟩=>?_) hm
 subst e
 cases r3
 exact wpAny_truthy_bool ⟨H3,I3,q3⟩
noncomputable def v5 (r r':R2)(ta tb tc:TE):TE:=λσ H Q=>ta σ H λx H1=>tb σ H1 λy H2=>r x y H2 λz H3=>∃k,z=.bl k /\
 (if k=true then tc σ H3 λw' H4=>r' y w' H4 Q else Q (.bl false) H3)
theorem jU {K7:CmpOp}{r r':R2}(ho:gF X (compareOp op) r)(GO:gF X (compareOp K7) r')(ha:PE X a ta)(hb:PE X b tb)(hc:PE X c tc)
 (hm:lastMarks [op,K7] [b,c]=false:=by with_unfolding_all rfl):PE X (.Compare a [op,K7] [b,c] pos) (v5 r r' ta tb tc):=by
 intro pins s σ H Q I h
 refine Compare_chain (bA (ha pins s σ H _ I h) λv s1 ⟨x,H1,I1,r1,q1⟩=>chain_link (bA (hb pins s1 σ H1 _ I1 q1) λu s2 ⟨y,H2,I2,r2,q2⟩ =>
  bA (ho pins s2 σ H2 x y v u _ I2 r1 r2 q2) λd s3 ⟨z,H3,I3,r3,k,e,q3⟩=>?_)) hm
 subst e
 cases r3
 refine wpAny_truthy_bool ?_
 cases k with
 |false=>exact ite_ff ⟨.bl false,H3,I3,rfl,q3⟩
 |true=>exact ite_tt (chain_last (bA (hc pins s3 σ H3 _ I3 q3) λw' s4 ⟨z',H4,I4,r4,q4⟩=>GO pins s4 σ H4 y z' u w' Q I4 r2 r4 q4))
theorem j2 {K7:CmpOp}{r r':R2}(ho:gF X (compareOp op) r)(GO:gF X (compareOp K7) r')(ha:PE X a ta)(hb:PE X b tb)(hc:PE X c tc)
 (hm:lastMarks [op,K7] [b,c]=false:=by with_unfolding_all rfl):PT X (.Compare a [op,K7] [b,c] pos) (rn (v5 r r' ta tb tc)):=by
 intro pins s σ H Q I h
 refine isTrue_chain (bA (ha pins s σ H _ I h) λv s1 ⟨x,H1,I1,r1,q1⟩=>test_link (bA (hb pins s1 σ H1 _ I1 q1) λu s2 ⟨y,H2,I2,r2,q2⟩ =>
  bA (ho pins s2 σ H2 x y v u _ I2 r1 r2 q2) λd s3 ⟨z,H3,I3,r3,k,e,q3⟩=>?_)) hm
 subst e
 cases r3
 refine wpAny_truthy_bool ?_
 cases k with
 |false =>
  obtain⟨k',e',q'⟩:=q3
  cases e'
  exact ite_ff ⟨H3,I3,q'⟩
 |true =>
  refine ite_tt (test_last (bA (hc pins s3 σ H3 _ I3 q3) λw' s4 ⟨z',H4,I4,r4,q4⟩=>bA (GO pins s4 σ H4 y z' u w' _ I4 r2 r4 q4) λd' s5 ⟨z2,H5,I5,r5,k2,e2,q5⟩=>?_));subst e2
  cases r5
  exact wpAny_truthy_bool ⟨H5,I5,q5⟩
noncomputable def Ak (K:PySem.W.Frag)(x:V)(H:Hp)(k:Bool):Prop :=
 match x with
 | .non=>k=false
 | .bl b=>k=b
 | .int i=>k=(i != 0)
 | .str y=>y.length<=sizeLine/\k=((y.length:Int) != 0)
 | .byt y=>y.size<=sizeLine/\k=((y.size:Int) != 0)
 | .ref p=>(∃xs,ba K H p xs/\k = !xs.isEmpty)\/(∃xs,bx K H p xs/\k = !xs.isEmpty)\/∃FQ,H p=some (.dK FQ)/\k = !FQ.isEmpty
 |_=>False
theorem abX {κ:Type}{FQ:List (κ×V)}{vs:List (κ×Value)}(r:KV FQ vs):(!vs.isEmpty) = !FQ.isEmpty:=by
 cases r <;> rfl
theorem jY {xs:List V}{its:xF}(r:aR xs its):(!its.toArray.isEmpty) = !xs.isEmpty:=by
 cases r <;> simp
theorem kr:(sizeLine:Nat)<2^63:=by rw[sizeLine_eq];decide
theorem abZ:abh X (λx H Q=>∃k,Ak X.K x H k/\Q k H):=by
 intro pins s σ H x v Q I rx h;obtain⟨k,e,q⟩:=h;have hl:=kr;have hs:sizeLine=16777216:=sizeLine_eq
 cases x with
 |non =>
  cases rx
  have e':k=false:=e;subst e';exact truthy_none ⟨H,I,q⟩
 |bl b =>
  cases rx
  have e':k=b:=e;subst e';exact wpAny_truthy_bool ⟨H,I,q⟩
 |int i =>
  obtain⟨t,rfl⟩:=rx;have e':k=(i != 0):=e;subst e';exact PySem.P.truthy_int ⟨H,I,q⟩
 |str y =>
  obtain⟨t,rfl⟩:=rx;obtain⟨hy,e'⟩:y.length<=sizeLine/\k=((y.length:Int) != 0):=e;subst e';exact PySem.P.truthy_str (by omega) ⟨H,I.tok _,q⟩
 |byt y =>
  obtain⟨t,rfl⟩:=rx;obtain⟨hy,e'⟩:y.size<=sizeLine/\k=((y.size:Int) != 0):=e;subst e';exact PySem.W.truthy_bytes (by omega) ⟨H,I.tok _,q⟩
 |ref p =>
  cases rx
  have e':(∃xs,ba X.K H p xs/\k = !xs.isEmpty)\/(∃xs,bx X.K H p xs/\k = !xs.isEmpty)\/∃FQ,H p=some (.dK FQ)/\k = !FQ.isEmpty:=e
  rcases e' with⟨xs,hx,e'⟩|⟨xs,hx,e'⟩|⟨FQ,hx,e'⟩
  ·subst e';obtain⟨its,r,pl,hz⟩:=I.list hx;have hlen:=r.length;exact wpAny_truthy_list pl.isList (by simp only[List.size_toArray];omega) ⟨H,I.tok _,by rw[jY r];exact q⟩
  ·subst e';obtain⟨its,r,pl,hz⟩:=I.tuple hx;have hlen:=r.length;exact truthy_tuple pl (by simp only[List.size_toArray];omega) ⟨H,I.tok _,by rw[jY r];exact q⟩
  ·subst e';obtain⟨hz,hS,vs,r,m⟩:FQ.length<=sizeLine/\(p==sysModules)=false/\∃vs,KV FQ vs/\s.heap.DictOf (bz X.prog X.w) p vs:=I.hok p _ hx;have hlen:FQ.length=vs.length:=Paired.length r;exact wpAny_truthy_dict hS m (by omega) ⟨H,I.tok _,by rw[abX r];exact q⟩
 |_=>exact(show False from e).elim
theorem j9 (ha:PE X a ta)(he:∀dH,isTrue a X.env dH=(do let v <-dH;standAt a.pos;holding [v] (truthy v))):
 PT X a (λσ H Q=>ta σ H λx H'=>∃k,Ak X.K x H' k/\Q k H'):=by
 intro pins s σ H Q I h;exact isTrue_plain (bA (ha pins s σ H _ I h) λv s1 ⟨x,H1,I1,r1,q1⟩=>abZ pins s1 σ H1 x v Q I1 r1 q1) (he _)
theorem eO {x:V}(r:aR [x] us):∃u,us=[u]/\aD x u:=by
 cases r with
 |cons r1 r2=>cases r2;exact⟨_,rfl,r1⟩
theorem oq {x:V}(r:aR [x,y] us):∃u w',us=[u,w']/\aD x u/\aD y w':=by
 cases r with
 |cons r1 r2 =>
  cases r2 with
  |cons r3 r4=>cases r4;exact⟨_,_,rfl,r1,r3⟩
theorem ie:dE X (.builtin "abs") (λxs H Q=>∃i,xs=[.int i]/\Q (.int (if i<0 then -i else i)) H):=by
 intro pins s σ H xs us Q I r h;obtain⟨i,rfl,q⟩:=h;obtain⟨u,rfl,t,rfl⟩:=eO r;exact call_abs_int λu tk=>⟨.int (if i<0 then -i else i),H,I.tok _,⟨_,rfl⟩,q⟩
theorem acf (hc:X.calm=true):dE X (.builtin "max") (λxs H Q=>∃i j,xs=[.int i,.int j]/\Q (.int (if j>i then j else i)) H):=by
 intro pins s σ H xs us Q I r h;obtain⟨i,j,rfl,q⟩:=h;obtain⟨u,w',rfl,⟨t,rfl⟩,⟨t',rfl⟩⟩:=oq r;refine max_two_ints (I.ok.hd hc) λh' tk k=>⟨_,H,I.kept k,?_,q⟩
 by_cases hj:j>i
 ·rw[if_pos hj,if_pos hj];exact⟨_,rfl⟩
 ·rw[if_neg hj,if_neg hj];exact⟨_,rfl⟩
theorem mv (hc:X.calm=true):dE X (.builtin "min") (λxs H Q=>∃i j,xs=[.int i,.int j]/\Q (.int (if j<i then j else i)) H):=by
 intro pins s σ H xs us Q I r h;obtain⟨i,j,rfl,q⟩:=h;obtain⟨u,w',rfl,⟨t,rfl⟩,⟨t',rfl⟩⟩:=oq r;refine min_two_ints (I.ok.hd hc) λh' tk k=>⟨_,H,I.kept k,?_,q⟩
 by_cases hj:j<i
 ·rw[if_pos hj,if_pos hj];exact⟨_,rfl⟩
 ·rw[if_neg hj,if_neg hj];exact⟨_,rfl⟩
theorem acC:dE X (.type "int") (λxs H Q=>(∃i,xs=[.int i]/\Q (.int i) H)\/∃k,xs=[.bl k]/\Q (.int (if k then 1 else 0)) H):=by
 intro pins s σ H xs us Q I r h
 rcases h with⟨i,rfl,q⟩|⟨k,rfl,q⟩
 ·obtain⟨u,rfl,t,rfl⟩:=eO r;exact call_int_int ⟨.int i,H,I,⟨_,rfl⟩,q⟩
 ·obtain⟨u,rfl,r1⟩:=eO r
  cases r1
  exact call_int_bool ⟨.int (if k then 1 else 0),H,I.tok _,⟨_,rfl⟩,q⟩
end
structure EG (h:Heap)(x dx C:Addr)(mA:yN):Prop where
 obj:h.get? x=some (PySem.W.instObj C dx)
 ns:h.Ns1 dx mA
 ne:dx≠x
theorem Sig {dx:Addr}{mA:yN}(n:h.Ns1 dx mA):∃od,h.get? dx=some od/\∀name,PySem.W.lookIn name od=some (mA name):=by
 obtain⟨o,es,ep,ho,hd,hk,_,hm⟩:=n;refine⟨o,ho,λname=>?_⟩;have e:=hm name;unfold nsFind findBy at e;rw[<-Array.find?_toList] at e;unfold PySem.W.lookIn;rw[hd];dsimp only
 split
 ·rename_i y q
  rw[q] at e;exact congrArg some e
 ·rename_i q
  rw[q] at e
  have a:es.toList.any (·.refKey)=false:=by
   rw[List.any_eq_false];intro y hy;obtain⟨z,t,RV⟩:=hk y (Array.mem_toList_iff.mp hy);simp[DictEntry.refKey,RV]
  have a':¬es.toList.any (·.refKey)=true:=by rw[a];exact Bool.false_ne_true
  rw[if_neg a'];exact congrArg some e
variable {C:Addr}
theorem EG.look {x dx:Addr}{mA:yN}(I:EG h x dx C mA):∃od,PySem.W.InstAt h x (PySem.W.instObj C dx) C (some od)/\∀name,PySem.W.lookIn name od=some (mA name):=
 let⟨od,ho,hl⟩:=Sig I.ns
 ⟨od,⟨I.obj,rfl,rfl,ho⟩,hl⟩
variable {pl:Sem Bool}{kw:List (Str×Value)}
section
variable {prog:zO}{w:World}{A:Around}{E:oP}{s:Fp}{K:PySem.W.Frag}{x dx C f:Addr}{mA:yN}{name:Str}{v:Value}
theorem abu {expr:Bool}{Q:oP}(X:K.In s.heap)(I:EG s.heap x dx C mA)(hg:PySem.W.plainGet K C name=true)(hh:PySem.W.hasDictIn K C=true)
 (ha:PySem.W.findIn K (.ref C) name=some none)(hv:mA name=some v)(YE:PySem.W.handedIn v=true)(h:Q v {s with toks:=s.toks+1}):
 wpAny (model prog w) A (getAttr (.ref x) name expr) Q E s:=by
 obtain⟨od,J,hl⟩:=I.look;exact PySem.W.get_value X J (PySem.W.plainGet_of hg).1 (PySem.W.findObj_own hh ha rfl (by rw[hl,hv])) YE h
theorem s12 {Q:Value×List Value->Shared->Prop}(X:K.In s.heap)(I:EG s.heap x dx C mA)(hg:PySem.W.plainGet K C name=true)
 (hf:PySem.W.findIn K (.ref C) name=some (some (.ref f)))(ht:PySem.W.isFn K (.ref f)=true)(hv:mA name=none)(h:Q (.ref f,[.ref x]) s):
 wpAny (model prog w) A (getMethod (.ref x) name pl) Q E s:=by
 obtain⟨od,J,hl⟩:=I.look;exact PySem.W.method_fn X J (PySem.W.plainGet_of hg).1 (PySem.W.plainGet_of hg).2 hf (beq_iff_eq.mp ht) (by show(PySem.W.lookIn name od).map (·.isSome)=some false;rw[hl,hv];rfl) h
theorem ab2 {ns:nO}{Q:Unit->Shared->Prop}(X:K.In s.heap)(I:EG s.heap x dx C mA)
 (hs:PySem.W.findIn K (.ref C) "__setattr__"=some (some (.builtin "object.__setattr__")))(hp:PySem.W.plainOver K C=true)(ht:PySem.W.takerIn K C name=some none)(hh:PySem.W.hasDictIn K C=true)
 (hw:PySem.Within mA ns)(hsz:ns.length<=sizeLine)
 (h:∀h',EG h' x dx C (λy=>if y=name then some v else mA y)->Heap.SameBut dx s.heap h'->Q () {s with heap:=h',toks:=s.toks+2}):
 wpAny (model prog w) A (setAttr (.ref x) name v) Q E s:=by
 obtain⟨od,J,hl⟩:=I.look;refine PySem.W.set_plain X J hs (PySem.W.osa_open (s:={s with toks:=s.toks+1}) (r:=none) X J hp ht λb=>?_);obtain⟨cd,hc,RN⟩:=PySem.W.any_some hh;have hx:s.heap.get? x=some ⟨.ref C,some dx,.plain,#[]⟩:=I.obj;refine wpAny_bind (wpAny_pure (wpAny_bind (wpAny_bind (wpAny_loadPart hx (wpAny_bind (PySem.W.Looks.here (s:={s with toks:=s.toks+1}) (PySem.W.looks_clsIn X hc) ?_))))));rw[RN];refine wpAny_pure (a:=some dx) (wpAny_bind (wpAny_pure (wpAny_bind ?_)));refine wpAny_nsSet1 (s:={s with toks:=s.toks+1}) I.ns λh' Rk Rl=>?_;obtain⟨oD,esD,epD,YF,YG,Jv⟩:=Rk.count (PySem.Within.cons name v hw);refine wpAny_bind (wpAny_lookBehind YF (by rw[YG];exact pastItsLine_dict (Nat.le_trans Jv (by rw[List.length_cons];omega))) ?_);exact wpAny_pure (h _ ⟨(Rl.2 _ (Ne.symm I.ne)).trans I.obj,Rk,I.ne⟩ Rl)
theorem ab8 {R:Result->Shared->Prop}{vs:xF}(X:K.In s.heap)(hm:PySem.W.makesIn K C=true)
 (hi:PySem.W.findIn K (.ref C) "__init__"=some (some (.ref f)))(hf:PySem.W.typeIn K (.ref f)=some (.type "function"))
 (h:codeAny (model prog w) (A.under (.builtin "type.__call__" ⟨.ref C::vs,kw⟩)) (.call (.ref f) ⟨.ref (s.heap.objs.size+1):: vs,kw⟩) (PySem.W.InitBack (s.heap.objs.size+1) R)
  {s with heap:=(s.heap.push PySem.W.emptyDict).push (PySem.W.instObj C s.heap.objs.size)}):
 codeAny (model prog w) A (.call (.ref C) ⟨vs,kw⟩) R s:=by
 obtain⟨hh,g,d,t,os⟩:=s;exact PySem.W.make_core (PySem.W.makes_of X hm) (PySem.W.looks_findIn X hi) (λself=>PySem.W.bind_fn X self hf) (.inl rfl) h
end
noncomputable def cP (f:Str)(v:V):List (Str×V)->List (Str×V)
 |[]=>[(f,v)]
 |(g,x):: r=>if g=f then(g,v):: r else(g,x):: cP f v r
theorem ji (f g:Str)(v:V):∀fs:List (Str×V),(cP f v fs).lookup g=if g=f then some v else fs.lookup g
 |[]=>by
  show List.lookup g [(f,v)]=_
  by_cases h:g=f
  ·have hb:(g==f)=true:=beq_iff_eq.mpr h;simp only[List.lookup,hb,if_pos h]
  ·have hb:(g==f)=false:=beq_eq_false_iff_ne.mpr h;simp only[List.lookup,hb,if_neg h]
 |(k,x):: r=>by
  have ih:=ji f g v r;rw[show cP f v ((k,x):: r)=(if k=f then(k,v):: r else(k,x):: cP f v r) from rfl]
  by_cases hk:k=f
  ·rw[if_pos hk]
   by_cases h:g=k
   ·have hb:(g==k)=true:=beq_iff_eq.mpr h;simp only[List.lookup,hb,if_pos (h.trans hk)]
   ·have hb:(g==k)=false:=beq_eq_false_iff_ne.mpr h;simp only[List.lookup,hb,if_neg (λe:g=f=>h (e.trans hk.symm))]
  ·rw[if_neg hk]
   by_cases h:g=k
   ·have hb:(g==k)=true:=beq_iff_eq.mpr h;simp only[List.lookup,hb,if_neg (λe:g=f=>hk (h.symm.trans e))]
   ·have hb:(g==k)=false:=beq_eq_false_iff_ne.mpr h;simp only[List.lookup,hb];exact ih
theorem i9 (f:Str)(v:V):∀fs:List (Str×V),f∈(cP f v fs).map (·.1)/\∀g,g∈fs.map (·.1)->g∈(cP f v fs).map (·.1)
 |[]=>⟨by simp[cP],λg h=>by simp at h⟩
 |(k,x):: r=>by
  obtain⟨i1,i2⟩:=i9 f v r;rw[show cP f v ((k,x):: r)=(if k=f then(k,v):: r else(k,x):: cP f v r) from rfl]
  by_cases hk:k=f
  ·rw[if_pos hk];subst hk;exact⟨by simp,λg h=>by simpa using h⟩
  ·rw[if_neg hk];refine⟨?_,λg h=>?_⟩
   ·rw[List.map_cons];exact List.mem_cons_of_mem _ i1
   ·rw[List.map_cons] at h |-
    rcases List.mem_cons.mp h with e|e
    ·exact List.mem_cons.mpr (.inl e)
    ·exact List.mem_cons_of_mem _ (i2 g e)
theorem jd (f:Str)(v:V):∀fs:List (Str×V),(cP f v fs).length<=fs.length+1
 |[]=>by simp[cP]
 |(k,x):: r=>by
  have ih:=jd f v r;rw[show cP f v ((k,x):: r)=(if k=f then(k,v):: r else(k,x):: cP f v r) from rfl]
  by_cases hk:k=f
  ·rw[if_pos hk,List.length_cons,List.length_cons];omega
  ·rw[if_neg hk,List.length_cons,List.length_cons];omega
theorem fM.some_of {v:V}{o:Ei}(r:fM (some v) o):∃u,o=some u/\aD v u:=by
 cases o with
 |none=>exact(show False from r).elim
 |some u=>exact⟨u,rfl,r⟩
theorem fM.none_of {o:Ei}(r:fM none o):o=none:=by
 cases o with
 |none=>rfl
 |some u=>exact(show False from r).elim
theorem acb (r:aD v u):PySem.W.handedIn u=true:=by
 cases v with
 |non=>cases(show u=Value.none from r);rfl
 |bl b=>cases(show u=Value.bool b from r);rfl
 |int i=>obtain⟨t,e⟩:=(show ∃t,u=Value.int i t from r);cases e;rfl
 |str x=>obtain⟨t,e⟩:=(show ∃t,u=Value.str x t from r);cases e;rfl
 |byt b=>obtain⟨t,e⟩:=(show ∃t,u=Value.bytes b t from r);cases e;rfl
 |flt b=>obtain⟨t,e⟩:=(show ∃t,u=Value.float b t from r);cases e;rfl
 |ref a=>cases(show u=Value.ref a from r);rfl
 |ty n=>cases(show u=Value.type n from r);rfl
section
variable {P:zO}{w:World}{H H':Hp}{h h':Heap}{a C dx:Addr}{fs YA:List (Str×V)}
theorem gu (hok:eK P w H h)(e:H a=some (.ins C dx fs)):∃mA,EG h a dx C mA/\(∀f,fM (fs.lookup f) (mA f))/\PySem.Within mA (fs.map (·.1))/\fs.length<=1000/\H dx=some (.own a):=by
 obtain⟨d,z,ne,ob,mA,n,r,q⟩:=(show br P w H h a (.ins C dx fs) from hok a _ e);exact⟨mA,⟨ob,n,ne⟩,r,q,z,d⟩
end
structure uU (K:PySem.W.Frag)(C:Addr):Prop where
 pg:PySem.W.plainGet K C Str.empty=true
 hd:PySem.W.hasDictIn K C=true
 po:PySem.W.plainOver K C=true
 sa:PySem.W.findIn K (.ref C) "__setattr__"=some (some (.builtin "object.__setattr__"))
theorem uU.get (c:uU K C)(f:Str):PySem.W.plainGet K C f=true:=c.pg
noncomputable def cT (K:PySem.W.Frag)(C:Addr)(f:Str):Prop:=PySem.W.findIn K (.ref C) f=some none
theorem cT.acg {f:Str}(n:cT K C f):PySem.W.takerIn K C f=some none:=by
 unfold PySem.W.takerIn;rw[show PySem.W.findIn K (.ref C) f=some none from n];rfl
structure Meth (K:PySem.W.Frag)(C:Addr)(m:Str)(f:Addr):Prop where
 at_:PySem.W.findIn K (.ref C) m=some (some (.ref f))
 fn:PySem.W.isFn K (.ref f)=true
 kp:PySem.W.keepIn K (.ref f)=true
section
variable {X:Cx}{pins:List (Addr×Obj)}{σ:St}{H:Hp}{s:Fp}{a C dx:Addr}{fs:List (Str×V)}{f:Str}{v:V}{A:Around}{E:oP}
theorem acd {b:Bool}{Q:oP}(I:Inv X pins σ H s)(e:H a=some (.ins C dx fs))(c:uU X.K C)(n:cT X.K C f)(l:fs.lookup f=some v)
 (h:∀u s',Inv X pins σ H s'->aD v u->Q u s'):wpAny (model X.prog X.w) A (getAttr (.ref a) f b) Q E s:=by
 obtain⟨mA,O,r,_,_,_⟩:=gu I.hok e;obtain⟨u,hu,ru⟩:=fM.some_of (v:=v) (o:=mA f) (by rw[<-l];exact r f);exact abu I.kIn O (c.get f) c.hd n hu (acb ru) (h u _ (I.tok _) ru)
theorem kq {m:Str}{g:Addr}{Q:Value×List Value->Shared->Prop}(I:Inv X pins σ H s)(e:H a=some (.ins C dx fs))(c:uU X.K C)(k:Meth X.K C m g)(l:fs.lookup m=none)
 (h:Q (.ref g,[.ref a]) s):wpAny (model X.prog X.w) A (getMethod (.ref a) m pl) Q E s:=by
 obtain⟨mA,O,r,_,_,_⟩:=gu I.hok e;have hn:mA m=none:=fM.none_of (by rw[<-l];exact r m);exact s12 I.kIn O (c.get m) k.at_ k.fn hn h
theorem ace {Q:Unit->Shared->Prop}(I:Inv X pins σ H s)(e:H a=some (.ins C dx fs))(c:uU X.K C)(n:cT X.K C f)(hl:fs.length<1000)(ry:aD y u)
 (h:∀s',Inv X pins σ (upd H a (.ins C dx (cP f y fs))) s'->Q () s'):wpAny (model X.prog X.w) A (setAttr (.ref a) f u) Q E s:=by
 obtain⟨mA,O,r,wi,_,ho⟩:=gu I.hok e
 have hz:(fs.map (·.1)).length<=sizeLine:=by rw[List.length_map,sizeLine_eq];omega
 refine ab2 I.kIn O c.sa c.po n.acg c.hd wi hz λh' O' sb=>h _ ?_;have hd:∃o,h'.get? dx=some o:=let⟨o,_,_,e',_⟩:=O'.ns;⟨o,e'⟩;refine I.write (x:=a) (e:=dx) (by rw[e];exact True.intro) (.inr ho) (λb q hb z=>(sb.2 b hb).trans z) hd ?_;refine⟨by rw[ai O.ne];exact ho,?_,O.ne,O'.obj,_,O'.ns,λg=>?_,λg hg=>?_⟩
 ·have:=jd f y fs;omega
 ·show fM ((cP f y fs).lookup g) (if g=f then some u else mA g);rw[ji]
  by_cases q:g=f
  ·rw[if_pos q,if_pos q];exact ry
  ·rw[if_neg q,if_neg q];exact r g
 ·by_cases q:g=f
  ·rw[q];exact(i9 f y fs).1
  ·refine(i9 f y fs).2 g (wi g λz=>hg ?_);show(if g=f then some u else mA g)=none;rw[if_neg q];exact z
theorem Inv.made (I:Inv X pins σ H s):Inv X pins σ (upd (upd H s.heap.objs.size (.own (s.heap.objs.size+1))) (s.heap.objs.size+1) (.ins C s.heap.objs.size []))
 {s with heap:=(s.heap.push PySem.W.emptyDict).push (PySem.W.instObj C s.heap.objs.size)}:=by
 have e1:(s.heap.push PySem.W.emptyDict).get? s.heap.objs.size=some PySem.W.emptyDict:=Heap.get?_push_size s.heap rfl
 have e2:((s.heap.push PySem.W.emptyDict).push (PySem.W.instObj C s.heap.objs.size)).get? (s.heap.objs.size+1)=some (PySem.W.instObj C s.heap.objs.size):=by
  have:=Heap.get?_push_size (s.heap.push PySem.W.emptyDict) (o:=PySem.W.instObj C s.heap.objs.size) rfl;rwa[Heap.size_push] at this
 have e3:(s.heap.push PySem.W.emptyDict).Ns s.heap.objs.size (λ_=>none):=⟨PySem.W.emptyDict,#[],_,e1,rfl,(λe he=>absurd he (by simp)),λ_=>rfl⟩;have I1:=I.laid (a:=s.heap.objs.size) (o:=.own (s.heap.objs.size+1)) (h':=s.heap.push PySem.W.emptyDict) (t':=s.toks) (λb u q=>Heap.get?_push_of_some _ q) (Nat.le_refl _) ⟨_,e1⟩;refine I1.laid (a:=s.heap.objs.size+1) (o:=.ins C s.heap.objs.size []) (t':=s.toks) (λb u q=>Heap.get?_push_of_some _ q) (Nat.le_of_eq (Heap.size_push _ _)) ?_;have ne:s.heap.objs.size≠s.heap.objs.size+1:=Nat.ne_of_lt (Nat.lt_succ_self _);refine⟨by rw[ai ne,ae],Nat.zero_le _,ne,e2,λ_=>none,(Heap.Ns1.of_empty e3).at λo q=>Heap.get?_push_of_some _ q,λ_=>True.intro,λy hy=>absurd rfl hy⟩
theorem aci {prog:zO}{env:Env}{f:Str}{s:Fp}{Q:oP}(hb:attributeBase e f env (eval e env)=eval e env)
 (h:wpAny (model prog w) A (eval e env) (λo s₁=>wpAny (model prog w) A (getAttr o f true) Q E s₁) E s):wpAny (model prog w) A (eval (.Attribute e f pos) env) Q E s :=
 Attribute_any_ h (by rw[arm_eval_Attribute,hb])
end
noncomputable def acz (K:PySem.W.Frag)(ta:TE)(f:Str):TE:=λσ H Q=>ta σ H λx H1=>∃a C dx fs v,x=.ref a/\H1 a=some (.ins C dx fs)/\uU K C/\cT K C f/\fs.lookup f=some v/\Q v H1
noncomputable def acB (K:PySem.W.Frag)(ta tv:TE)(f:Str):TS:=λD σ H=>tv σ H λy H1=>ta σ H1 λx H2=>∃a C dx fs,x=.ref a/\H2 a=some (.ins C dx fs)/\uU K C/\cT K C f/\fs.length<1000 /\
 D.nx σ (upd H2 a (.ins C dx (cP f y fs)))
section
variable {X:Cx}{o e value:Expr}{f:Str}{pos pos' RW:Pos}{ta tv:TE}
theorem dF (he:PE X e ta)(hb:attributeBase e f X.env (eval e X.env)=eval e X.env):PE X (.Attribute e f pos) (acz X.K ta f):=by
 intro pins s σ H Q I h;refine aci hb (bA (he pins s σ H _ I h) λu s1 z'=>?_);obtain⟨x,H1,I1,rx,a,C,dx,fs,v,ex,ea,c,n,l,q⟩:=z';subst ex;obtain rfl:u=Value.ref a:=rx;exact acd I1 ea c n l λu' s2 I2 ru=>⟨v,H1,I2,ru,q⟩
theorem gW (ha:PE X o ta)(hv:PE X value tv)(hs:swapsWith value (some (.Attribute o f pos')) pos.line X.env=pure false):PS X (.Assign [.Attribute o f pos'] value pos) (acB X.K ta tv f):=by
 intro pins s σ H D I h;refine plainObj_wpAny_Assign_Attribute (bA (hv pins s σ H _ I h) λu s1 ⟨y,H1,I1,ry,q⟩=>bA (ha pins s1 σ H1 _ I1 q) λov s2 z'=>?_) hs;obtain⟨x,H2,I2,rx,a,C,dx,fs,ex,ea,c,n,l,q2⟩:=z';subst ex;obtain rfl:ov=Value.ref a:=rx;exact ace I2 ea c n l ry λs3 I3=>⟨σ,_,I3,q2⟩
end
section
variable {X:Cx}{pins:List (Addr×Obj)}{σ:St}{H:Hp}{s:Fp}{A:Around}{E:oP}{Q:oP}{c:Value}{b:Bool}
inductive Fu (K:PySem.W.Frag)(H:Hp):V->Value->Prop where
 |non:Fu K H .non (.type "NoneType")
 |bl (x:Bool):Fu K H (.bl x) (.type "bool")
 |int (i:Int):Fu K H (.int i) (.type "int")
 |str (x:Str):Fu K H (.str x) (.type "str")
 |flt (x:UInt64):Fu K H (.flt x) (.type "float")
 |lst {a:Addr}{xs:List V}(e:H a=some (.lst xs)):Fu K H (.ref a) (.type "list")
 |frz {a:Addr}{o:Obj}{xs:List V}(e:H a=some (.frz o (.lst xs))):Fu K H (.ref a) (.type "list")
 |tup {a:Addr}{xs:List V}(e:H a=some (.tup xs)):Fu K H (.ref a) (.type "tuple")
 |dK {a:Addr}{FQ:List (Key×V)}(e:H a=some (.dK FQ)):Fu K H (.ref a) (.type "dict")
 |dT {a:Addr}{FQ:List (List Key×V)}(e:H a=some (.dT FQ)):Fu K H (.ref a) (.type "dict")
 |ins {a C dx:Addr}{fs:List (Str×V)}(e:H a=some (.ins C dx fs))(cl:uU K C)(ha:PySem.W.findIn K (.ref C) "__class__"=some (some (.builtin "object.__class__")))
  (hn:PySem.W.specialIn K (.builtin "object.__class__") "__get__"=some (some (.builtin "getset_descriptor.__get__")))(RX:PySem.W.takesIn K (.builtin "object.__class__")=some true)
  (hm:PySem.W.mroIn K C (.type "object")=some true):Fu K H (.ref a) (.ref C)
theorem acD {x:V}{t:Value}(I:Inv X pins σ H s)(rx:aD x u)(ty:Fu X.K H x t)(e:PySem.W.kitOne X.K t c=some b)(h:∀tk,Q (.bool b) {s with toks:=tk}):
 wpAny (model X.prog X.w) A (call (.builtin "isinstance") [u,c]) Q E s:=by
 cases ty with
 |non=>cases(show u=Value.none from rx);exact PySem.W.kia_one PySem.W.kitx_none I.kIn True.intro e (λz=>nomatch z) h
 |bl y=>cases(show u=Value.bool y from rx);exact PySem.W.kia_one PySem.W.kitx_bool I.kIn True.intro e (λz=>nomatch z) h
 |int i=>obtain⟨t,q⟩:=(show ∃t,u=Value.int i t from rx);cases q;exact PySem.W.kia_one PySem.W.kitx_int I.kIn True.intro e (λz=>nomatch z) h
 |str y=>obtain⟨t,q⟩:=(show ∃t,u=Value.str y t from rx);cases q;exact PySem.W.kia_one PySem.W.kitx_str I.kIn True.intro e (λz=>nomatch z) h
 |flt y=>obtain⟨t,q⟩:=(show ∃t,u=Value.float y t from rx);cases q;exact PySem.W.kia_one PySem.W.kitx_float I.kIn True.intro e (λz=>nomatch z) h
 |@lst a xs ea =>
  cases(show u=Value.ref a from rx)
  obtain⟨_,_,n,_,h1⟩:=(show br X.prog X.w H s.heap a (.lst xs) from I.hok a _ ea);exact PySem.W.kia_one PySem.W.kitx_list I.kIn ⟨_,h1,rfl⟩ e (λz=>nomatch z) h
 |@frz a ob xs ea =>
  cases(show u=Value.ref a from rx)
  obtain⟨_,_,_,n,_,h1⟩:=(show br X.prog X.w H s.heap a (.frz ob (.lst xs)) from I.hok a _ ea);exact PySem.W.kia_one PySem.W.kitx_list I.kIn ⟨_,h1,rfl⟩ e (λz=>nomatch z) h
 |@tup a xs ea =>
  cases(show u=Value.ref a from rx)
  obtain⟨_,_,_,p⟩:=(show br X.prog X.w H s.heap a (.tup xs) from I.hok a _ ea);obtain⟨o,h1,h2,_⟩:=p;exact PySem.W.kia_one PySem.W.kitx_tuple I.kIn ⟨o,h1,h2⟩ e (λz=>nomatch z) h
 |@dK a FQ ea =>
  cases(show u=Value.ref a from rx)
  obtain⟨_,_,vs,_,p⟩:=(show br X.prog X.w H s.heap a (.dK FQ) from I.hok a _ ea);obtain⟨o,es,ep,h1,h2,_⟩:=p;exact PySem.W.kia_one PySem.W.kitx_dict I.kIn ⟨o,h1,h2.1⟩ e (λz=>nomatch z) h
 |@dT a FQ ea =>
  cases(show u=Value.ref a from rx)
  obtain⟨_,_,xs,_,o,es,ep,h1,h2,_⟩:=(show br X.prog X.w H s.heap a (.dT FQ) from I.hok a _ ea);exact PySem.W.kia_one PySem.W.kitx_dict I.kIn ⟨o,h1,h2.1⟩ e (λz=>nomatch z) h
 |@ins a C dx fs ea cl ha hn RX hm =>
  cases(show u=Value.ref a from rx)
  obtain⟨mA,O,_⟩:=gu I.hok ea;obtain⟨od,J,_⟩:=O.look;exact PySem.W.kia_one (PySem.W.kitx_own (cl.get _) cl.hd ha hn RX hm) I.kIn J e (λz=>nomatch z) h
end
structure Fq (k:Nat)(A:Around):Prop where
 hd:A.handled=none
 dp:A.depth+3*k+5<recursionLimit
 un:A.units+16*k+200<cLine
 gd:A.guards=some []
theorem Fq.mono {j:Nat}(r:Fq k A)(h:j<=k):Fq j A:=⟨r.hd,by have:=r.dp;omega,by have:=r.un;omega,r.gd⟩
theorem Fq.deeper (r:Fq (k+1) A)(env:Env):Fq k (A.deeper env):=
 ⟨r.hd,by have:=r.dp;show A.depth+1+3*k+5<_;omega,by have:=r.un;show A.units+3+16*k+200<_;omega,r.gd⟩
theorem Fq.in1 (r:Fq (k+1) A):Fq k A.in1 :=
 ⟨r.hd,by have:=r.dp;show A.depth+3*k+5<_;omega,by have:=r.un;show A.units+1+16*k+200<_;omega,r.gd⟩
theorem acE :(A.under (.builtin "type.__call__" ⟨.ref C::us,kw⟩)).depth=A.depth+1:=by
 first|rfl|simp[Around.under,Code.weight,Code.isCreation,Code.isGuard,Code.isCaller,Code.frames,Code.isFrame,guardIds]
theorem acF :(A.under (.builtin "type.__call__" ⟨.ref C::us,kw⟩)).guards=A.guards:=by
 first|rfl|simp[Around.under,Code.guards,Code.isGuard,guardIds,pushGuards]
theorem acM :(A.under (.builtin "type.__call__" ⟨.ref C::us,kw⟩)).units=A.units+1:=by
 first|rfl|simp[Around.under,Code.cUnits,Code.frames,Code.isFrame]
theorem Fq.make (r:Fq (k+1) A)(C:Addr)(us:xF)(kw:List (Str×Value)):Fq k (A.under (.builtin "type.__call__" ⟨.ref C::us,kw⟩)):=
 ⟨r.hd,by have:=r.dp;rw[acE];omega,by have:=r.un;rw[acM];omega,by rw[acF];exact r.gd⟩
theorem Fq.depth (r:Fq k A):A.depth<recursionLimit:=by have:=r.dp;omega
theorem Fq.units (r:Fq k A):A.units+64<cLine:=by have:=r.un;omega
theorem Fq.abj (r:Fq k A):A.units<cLine:=by have:=r.un;omega
noncomputable def tW:TA:=λ_ H Q=>Q [] H
noncomputable def aQ (ta:TE)(tr:TA):TA:=λσ H Q=>ta σ H λx H1=>tr σ H1 λxs H2=>Q (x::xs) H2
section
variable {X:Cx}{e:Expr}{es:wW}{te:TE}{t:TA}{pos:Pos}
theorem ag:PA X [] tW:=λ_ _ _ _ H Q I h=>Calls.spliced_nil ⟨[],H,I,.nil,h⟩
theorem aS (ha:PE X e te)(hr:PA X es t)(hs:starEach (e::es) X.env=(false,eval e X.env):: starEach es X.env:=by rfl):PA X (e::es) (aQ te t):=by
 intro pos pins s σ H Q I h;rw[hs];show wpAny _ _ (spliced ((false,eval e X.env):: backTo pos (starEach es X.env))) _ _ s;refine Calls.spliced_cons (bA (ha pins s σ H _ I h) λu s1 z'=>?_);obtain⟨x,H1,I1,r1,q1⟩:=z';exact bA (hr pos pins s1 σ H1 _ I1 q1) λus s2 ⟨xs,H2,I2,r2,q2⟩=>⟨x::xs,H2,I2,.cons r1 r2,q2⟩
noncomputable def yq (t:TA):TE:=λσ H Q=>t σ H λxs H1=>xs.length<=sizeLine/\∀p,H1 p=none->Q (.ref p) (upd H1 p (.tup xs))
noncomputable def pW (t:TA):TE:=λσ H Q=>t σ H λxs H1=>xs.length<=sizeLine/\∀p,H1 p=none->Q (.ref p) (upd H1 p (.lst xs))
theorem bO {x1}(h:PA X es t):PE X (.Tuple es x1 pos) (yq t):=by
 intro pins s σ H Q I hq;refine wpAny_Tuple_spliced (bA (h pos pins s σ H _ I hq) λus s1 ⟨xs,H1,I1,r,z,q⟩=>⟨by rw[<-r.length];exact z,?_⟩);have hf:H1 s1.heap.objs.size=none:=I1.hok.fresh (Nat.le_refl _);refine⟨.ref s1.heap.objs.size,upd H1 s1.heap.objs.size (.tup xs),I1.laid (t':=s1.toks) (λb u e=>Heap.get?_push_of_some _ e) (Nat.le_refl _) ?_,rfl,q _ hf⟩;exact⟨z,us,r,⟨_,Heap.get?_push_size _ rfl,rfl,_,rfl⟩⟩
theorem cy (h:PA X es t):PE X (.List es pos) (pW t):=by
 intro pins s σ H Q I hq;refine wpAny_List_spliced (bA (h pos pins s σ H _ I hq) λus s1 ⟨xs,H1,I1,r,z,q⟩=>⟨by rw[<-r.length];exact z,?_⟩);have hf:H1 s1.heap.objs.size=none:=I1.hok.fresh (Nat.le_refl _);refine⟨.ref s1.heap.objs.size,upd H1 s1.heap.objs.size (.lst xs),I1.laid (t':=s1.toks) (λb u e=>Heap.get?_push_of_some _ e) (Nat.le_refl _) ?_,rfl,q _ hf⟩;exact⟨z,us,0,r,Heap.get?_push_size _ rfl⟩
end
noncomputable abbrev Sp:=List V->Hp->VK->XK->Prop
noncomputable abbrev Et:=List Env->Hp->Shared->XK->Value->Shared->Prop
structure As (P:zO)(w:World)(K:PySem.W.Frag)(mg:yN)(base:Heap)(A:Around)(outer:List Env)(s:Fp)(H:Hp):Prop where
 frames:A.frames=some outer
 mod:Mod K mg base
 bs:∀b o,base.get? b=some o->s.heap.get? b=some o/\H b=none
 bsz:base.objs.size<=s.heap.objs.size
 aat:s.heap.FunFrames base outer
 frf:∀b∈dz outer,H b=none
 hok:eK P w H s.heap
 bare:AllBare s.gens
noncomputable def CE (outer:List Env)(P:zO)(w:World)(H:Hp)(s:Fp)(Q:VK)(u:Value)(s':Fp):Prop :=
 ∃v H',s'.os=s.os/\AllBare s'.gens/\Un (dz outer) [] H H' s.heap s'.heap/\eK P w H' s'.heap/\aD v u/\Q v H'
noncomputable def CR (CX:Et)(outer:List Env)(P:zO)(w:World)(H:Hp)(s:Fp)(Q:VK)(E:XK)(r:Result)(s':Fp):Prop :=
 match r with
 | .ok (.ret u)=>CE outer P w H s Q u s'
 | .ok _=>False
 | .error e=>CX outer H s E e s'
structure Ef (P:zO)(w:World)(K:PySem.W.Frag)(mg:yN)(base:Heap)(CX:Et)(k:Nat)(f:Addr)(fd:vH)(ps:nO)(sp:Sp):Prop where
 len:∀vs H Q E,sp vs H Q E->vs.length=ps.length
 run:∀(A:Around)(outer:List Env)(s:Fp)(H:Hp)(args:Args)(us:xF)(vs:List V)(Q:VK)(E:XK),Fq k A->As P w K mg base A outer s H->BindsTo s fd args (ps.zip us)->aR vs us->sp vs H Q E →
  codeAny (model P w) A (.call (.ref f) args) (CR CX outer P w H s Q E) s
variable {mg:yN}{base:Heap}{outer:List Env}
theorem As.make (e:As P w K mg base A outer s H)(C:Addr)(us:xF)(kw:List (Str×Value)):
 As P w K mg base (A.under (.builtin "type.__call__" ⟨.ref C::us,kw⟩)) outer s H:=⟨by first|exact e.frames|(simpa[Around.under,Code.envs,Code.isFrame,pushEnvs] using e.frames),e.mod,e.bs,e.bsz,e.aat,e.frf,e.hok,e.bare⟩
theorem As.in1 (e:As P w K mg base A outer s H):
 As P w K mg base A.in1 outer s H:=⟨e.frames,e.mod,e.bs,e.bsz,e.aat,e.frf,e.hok,e.bare⟩
section
variable {X:Cx}{pins:List (Addr×Obj)}{σ:St}{H:Hp}{s s':Fp}
theorem Inv.abO (I:Inv X pins σ H s):As X.prog X.w X.K X.mg X.base X.A X.stack s H :=
 ⟨I.ok.frames,I.ok.mod,I.bs,Nat.le_trans I.ok.bsz I.sz,I.stack,I.aaE,I.hok,I.bare⟩
theorem Inv.after (I:Inv X pins σ H s)(h:CE X.stack X.prog X.w H s Q u s'):EP X pins σ Q u s':=by
 obtain⟨v,H',os,bare,un,hok,r,q⟩:=h;obtain⟨hh,g,d,t,YH⟩:=s';obtain rfl:YH=s.os:=os;exact⟨v,H',I.call (h':=hh) (g':=g) (d':=d) (t':=t) (ch:=[]) un hok bare (λb z=>absurd z (by simp)),r,q⟩
end
noncomputable def gH (sp:Sp)(dvs:List V)(E:XK)(t:TA):TE:=λσ H Q=>t σ H λvs H1=>sp (vs++dvs) H1 Q E
noncomputable def zy (C:Addr)(m:Str)(sp:Sp)(dvs:List V)(E:XK)(ta:TE)(t:TA):TE:=λσ H Q=>ta σ H λx H1=>∃a dx fs,x=.ref a/\H1 a=some (.ins C dx fs)/\fs.lookup m=none /\
 t σ H1 λvs H2=>sp (x::(vs++dvs)) H2 Q E
noncomputable def acP (C:Addr)(sp:Sp)(dvs:List V)(E:XK)(t:TA):TE:=λσ H Q=>t σ H λvs H1=>∀x dx,H1 x=none->H1 dx=none->dx≠x →
 sp (.ref x::(vs++dvs)) (upd (upd H1 dx (.own x)) x (.ins C dx [])) (λv H2=>v=.non/\Q (.ref x) H2) E
noncomputable def az (K:PySem.W.Frag)(fd:vH)(ps:nO)(ds:xF):Prop :=
 ∀(s:Fp)(us:xF),K.In s.heap->(us++ds).length=ps.length->BindsTo s fd ⟨us,[]⟩ (ps.zip (us++ds))
variable {ps:nO}
theorem az.all {fd:vH}(h:∀us:List Value,us.length=ps.length->bindArgs fd ⟨us,[]⟩=pure (ps.zip us)):az K fd ps []:=λs us _ hl=>by
 rw[List.append_nil] at hl |-;exact .of_eq (h us hl)
noncomputable def eJ (CX:Et)(X:Cx)(E:XK):Prop:=∀(pins:List (Addr×Obj))(σ:St)(H:Hp)(s:Fp)(e:Value)(s':Fp),Inv X pins σ H s->CX X.stack H s E e s'->X.xe e s'
section
variable {X:Cx}{CX:Et}{k:Nat}{f C:Addr}{fd:vH}{ps:nO}{sp:Sp}{dvs:List V}{ds:xF}{E:XK}{x m:Str}{p pos apos:Pos}{e o:Expr}{es:wW}{ta:TE}{t:TA}
theorem nv {us:xF}{vs:List V}(F:Ef X.prog X.w X.K X.mg X.base CX k f fd ps sp)(hr:Fq k X.A)(hb:az X.K fd ps ds)(hd:aR dvs ds)(hx:eJ CX X E)
 (I:Inv X pins σ H s)(r:aR vs us)(h:sp (vs++dvs) H Q E):wpAny (model X.prog X.w) X.A (call (.ref f) us) (EP X pins σ Q) X.xe s:=by
 have r2:aR (vs++dvs) (us++ds):=r.append hd
 have hl:(us++ds).length=ps.length:=by rw[<-r2.length];exact F.len _ _ _ _ h
 refine wpAny_call (codeAny_mono (F.run X.A X.stack s H ⟨us,[]⟩ (us++ds) (vs++dvs) Q E hr I.abO (hb s us I.kIn hl) r2 h) λr s' hq=>?_)
 cases r with
 |error e=>exact hx pins σ H s e s' I hq
 |ok fl =>
  cases fl with
  |ret u=>exact I.after hq
  |next=>exact False.elim hq
  |brk=>exact False.elim hq
  |cont=>exact False.elim hq
theorem av (F:Ef X.prog X.w X.K X.mg X.base CX k f fd ps sp)(hr:Fq k X.A)(hg:Gl X x)(hm:X.mg x=some (.ref f))(hk:PySem.W.keepIn X.K (.ref f)=true)(hb:az X.K fd ps ds)(hd:aR dvs ds)(hx:eJ CX X E)
 (ha:PA X (e::es) t)(Iz:(x==("__debug__":Str))=false:=by decide)(he:starEach (e::es) X.env=(false,eval e X.env):: starEach es X.env:=by rfl)(HA:(backTo pos (starEach es X.env)).any (·.1)=false:=by rfl):
 PE X (.Call (.Name x p) (e::es) [] pos) (gH sp dvs E t):=by
 intro pins s σ H Q I h;refine wpAny_Call_Name_kw (fj I hg hm ?_ Iz);refine PySem.W.callWith_K (h₀:=X.base) I.ok.mod.kin hk (bA (ha pos pins s σ H _ I h) λus s1 ⟨vs,H1,I1,r,q⟩=>⟨I1.kIn,?_⟩) he HA;exact nv F hr hb hd hx I1 r q
theorem m6 (he:PE X o ta)(c:uU X.K C)(hm:Meth X.K C m f)(F:Ef X.prog X.w X.K X.mg X.base CX k f fd ps sp)(hr:Fq k X.A)(hb:az X.K fd ps ds)(hd:aR dvs ds)(hx:eJ CX X E)(ha:PA X (e::es) t)
 (Jj:starEach (e::es) X.env=(false,eval e X.env):: starEach es X.env:=by rfl)(HA:(backTo pos (starEach es X.env)).any (·.1)=false:=by rfl)
 (ht:eval (.Call (.Attribute o m apos) (e::es) [] pos) X.env=(do
  let ov <-eval o X.env
  standAt apos.atName
  let(f,first) <-holding [ov] (getMethod ov m pl)
  callWith pos f first (backTo pos (starEach (e::es) X.env)) (backToKw pos (keywordEach [] X.env))):=by rfl):
 PE X (.Call (.Attribute o m apos) (e::es) [] pos) (zy C m sp dvs E ta t):=by
 intro pins s σ H Q I h;refine PySem.W.methodCall_KW (pl:=pl) (bA (he pins s σ H _ I h) λu s1 z'=>?_) ht;obtain⟨x,H1,I1,rx,a,dx,fs,ex,ea,l,q⟩:=z';subst ex;obtain rfl:u=Value.ref a:=rx;refine kq I1 ea c hm l ?_;refine PySem.W.callWith_K (first:=[.ref a]) (h₀:=X.base) I.ok.mod.kin hm.kp (bA (ha pos pins s1 σ H1 _ I1 q) λus s2 ⟨vs,H2,I2,r,q2⟩=>⟨I2.kIn,?_⟩) Jj HA;exact nv (us:=.ref a::us) (vs:=.ref a::vs) F hr hb hd hx I2 (.cons rfl r) q2
theorem dM (he:PE X o ta)(c:uU X.K C)(hm:Meth X.K C m f)(F:Ef X.prog X.w X.K X.mg X.base CX k f fd ps sp)(hr:Fq k X.A)(hb:az X.K fd ps ds)(hd:aR dvs ds)(hx:eJ CX X E)
 (ht:eval (.Call (.Attribute o m apos) [] [] pos) X.env=(do
  let ov <-eval o X.env
  standAt apos.atName
  let(f,first) <-holding [ov] (getMethod ov m pl)
  callWith pos f first (backTo pos (starEach [] X.env)) (backToKw pos (keywordEach [] X.env))):=by rfl):
 PE X (.Call (.Attribute o m apos) [] [] pos) (zy C m sp dvs E ta tW):=by
 intro pins s σ H Q I h;refine PySem.W.methodCall_KW (pl:=pl) (bA (he pins s σ H _ I h) λu s1 z'=>?_) ht;obtain⟨x,H1,I1,rx,a,dx,fs,ex,ea,l,q⟩:=z';subst ex;obtain rfl:u=Value.ref a:=rx;refine kq I1 ea c hm l ?_;exact PySem.W.callWith_K0 (first:=[.ref a]) I1.kIn hm.kp (nv (us:=[.ref a]) (vs:=[.ref a]) F hr hb hd hx I1 (.cons rfl .nil) q)
structure Mk (K:PySem.W.Frag)(C f:Addr):Prop where
 makes:PySem.W.makesIn K C=true
 init:PySem.W.findIn K (.ref C) "__init__"=some (some (.ref f))
 fn:PySem.W.isFn K (.ref f)=true
 kp:PySem.W.keepIn K (.ref C)=true
theorem acQ {vs:List V}(M:Mk X.K C f)(F:Ef X.prog X.w X.K X.mg X.base CX k f fd ps sp)(hr:Fq (k+1) X.A)(hb:az X.K fd ps ds)(hd:aR dvs ds)
 (hx:eJ CX X E)(I:Inv X pins σ H s)(r:aR vs us)
 (h:∀x dx,H x=none->H dx=none->dx≠x->sp (.ref x::(vs++dvs)) (upd (upd H dx (.own x)) x (.ins C dx [])) (λv H2=>v=.non/\Q (.ref x) H2) E):
 wpAny (model X.prog X.w) X.A (call (.ref C) us) (EP X pins σ Q) X.xe s:=by
 have hq:=h (s.heap.objs.size+1) s.heap.objs.size (I.hok.fresh (Nat.le_succ _)) (I.hok.fresh (Nat.le_refl _)) (Nat.ne_of_lt (Nat.lt_succ_self _));have I2:=Inv.made (C:=C) I;have r2:aR (V.ref (s.heap.objs.size+1):: (vs++dvs)) (Value.ref (s.heap.objs.size+1):: (us++ds)):=.cons rfl (r.append hd)
 have hl:(Value.ref (s.heap.objs.size+1):: us++ds).length=ps.length:=by
  have e:=r2.length;rw[F.len _ _ _ _ hq] at e;exact e.symm
 refine wpAny_call (ab8 (f:=f) I.kIn M.makes M.init (beq_iff_eq.mp M.fn) (codeAny_mono (F.run _ X.stack _ _ ⟨Value.ref (s.heap.objs.size+1):: us,[]⟩ (Value.ref (s.heap.objs.size+1):: (us++ds)) _ _ E (hr.make C us [])
  (I2.abO.make C us []) (hb _ (Value.ref (s.heap.objs.size+1):: us) I2.kIn hl) r2 hq) λr s' MO=>?_))
 cases r with
 |error e=>exact hx pins σ _ _ e s' I2 MO
 |ok fl =>
  cases fl with
  |ret u =>
   obtain⟨v,H',I3,rv,ev,q3⟩:=I2.after MO;subst ev;exact⟨rv,⟨V.ref (s.heap.objs.size+1),H',I3,rfl,q3⟩⟩
  |next=>exact False.elim MO
  |brk=>exact False.elim MO
  |cont=>exact False.elim MO
theorem m5 (M:Mk X.K C f)(F:Ef X.prog X.w X.K X.mg X.base CX k f fd ps sp)(hr:Fq (k+1) X.A)(hg:Gl X x)(hm:X.mg x=some (.ref C))(hb:az X.K fd ps ds)(hd:aR dvs ds)(hx:eJ CX X E)
 (ha:PA X (e::es) t)(Iz:(x==("__debug__":Str))=false:=by decide)(he:starEach (e::es) X.env=(false,eval e X.env):: starEach es X.env:=by rfl)(HA:(backTo pos (starEach es X.env)).any (·.1)=false:=by rfl):
 PE X (.Call (.Name x p) (e::es) [] pos) (acP C sp dvs E t):=by
 intro pins s σ H Q I h;refine wpAny_Call_Name_kw (fj I hg hm ?_ Iz);refine PySem.W.callWith_K (h₀:=X.base) I.ok.mod.kin M.kp (bA (ha pos pins s σ H _ I h) λus s1 ⟨vs,H1,I1,r,q⟩=>⟨I1.kIn,?_⟩) he HA;exact acQ M F hr hb hd hx I1 r q
end
noncomputable def PK (X:Cx)(MP:List Keyword)(t:TA):Prop :=
 ∀(pos:Pos)(pins:List (Addr×Obj))(s:Fp)(σ:St)(H:Hp)(Q:List V->Hp->Prop),Inv X pins σ H s->t σ H Q->wpAny (model X.prog X.w) X.A (evalAll ((backToKw pos (keywordEach MP X.env)).map (·.2))) (AP X pins σ Q) X.xe s
section
variable {X:Cx}{CX:Et}{k:Nat}{f C:Addr}{fd:vH}{ps ks:nO}{sp:Sp}{E:XK}{x m:Str}{p pos apos kpos:Pos}{e o:Expr}{es:wW}{MP:List Keyword}{te ta:TE}{t tk:TA}{nm:Option Str}
theorem adA:PK X [] tW:=λ_ _ _ _ H Q I h=>wpAny_evalAll_nil ⟨[],H,I,.nil,h⟩
theorem aa8 (ha:PE X e te)(hr:PK X MP t):PK X (⟨nm,e,kpos⟩::MP) (aQ te t):=by
 intro pos pins s σ H Q I h;show wpAny _ _ (evalAll ((do let v <-eval e X.env;standAt pos;pure v):: (backToKw pos (keywordEach MP X.env)).map (·.2))) _ _ s;refine wpAny_evalAll_cons (wpAny_bind (bA (ha pins s σ H _ I h) λu s1 ⟨x,H1,I1,r1,q1⟩=>wpAny_bind (wpAny_standAt (wpAny_pure ?_))));exact bA (hr pos pins s1 σ H1 _ I1 q1) λus s2 ⟨xs,H2,I2,r2,q2⟩=>⟨x::xs,H2,I2,.cons r1 r2,q2⟩
variable {g:List Value->List Value->List Value}{gV:List V->List V->List V}
end
structure yd (N P:nO)(sc:Scope):Prop where
 kind:sc.kind=.function
 co:sc.isCoroutine=false
 gen:sc.isGenerator=false
 nd:N.Nodup
 pre:N.take P.length=P
 par:∀x∈P,sc.names.lookup x=some .local\/sc.names.lookup x=some .cell
 ab4:∀y∈sc.names,y.2≠.free
theorem c9 {P:nO}{sc:Scope}(h:sc.kind=.function/\sc.isCoroutine=false/\sc.isGenerator=false/\N.Nodup/\N.take P.length=P/\(∀x∈P,sc.names.lookup x=some .local\/sc.names.lookup x=some .cell)/\∀y∈sc.names,y.2≠.free):yd N P sc:=⟨h.1,h.2.1,h.2.2.1,h.2.2.2.1,h.2.2.2.2.1,h.2.2.2.2.2.1,h.2.2.2.2.2.2⟩
variable {kindOf:Str->Option NameKind}
theorem md :∀{binds:List (Str×Value)}{m:yN},(∀v,(x,v)∉binds)->bindL kindOf binds m x=m x
 |[],_,_=>rfl
 |(n,v):: r,m,h=>by
  unfold bindL;rw[md λw hw=>h w (List.mem_cons_of_mem _ hw)]
  split
  ·have:x≠n:=by rintro rfl;exact h v List.mem_cons_self
   simp[this]
  ·rfl
theorem lL :∀{binds:List (Str×Value)}{m:yN},(∀v,(x,v)∉binds)->bindC kindOf binds m x=m x
 |[],_,_=>rfl
 |(n,v):: r,m,h=>by
  unfold bindC;rw[lL λw hw=>h w (List.mem_cons_of_mem _ hw)]
  split
  ·rfl
  ·have:x≠n:=by rintro rfl;exact h v List.mem_cons_self
   simp[this]
theorem mh {v:Value}:∀{P:nO}{vs:xF}{i:Nat}{m:yN},P.Nodup->P[i]?=some x->vs[i]?=some v->kindOf x=some .local →
 bindL kindOf (P.zip vs) m x=some v
 |[],_,_,_,_,h,_,_=>by simp at h
 |_::_,[],_,_,_,_,h,_=>by simp at h
 |p::P,w::vs,0,m,nd,h1,h2,hk=>by
  simp at h1 h2;subst h1;subst h2;show bindL kindOf ((p,w):: P.zip vs) m p=_;unfold bindL;rw[md λv hv=>(List.nodup_cons.mp nd).1 (List.of_mem_zip hv).1,if_pos hk];simp
 |p::P,w::vs,i+1,m,nd,h1,h2,hk=>by
  show bindL kindOf ((p,w):: P.zip vs) m x=_;unfold bindL;exact mh (i:=i) (List.nodup_cons.mp nd).2 (by simpa using h1) (by simpa using h2) hk
theorem mE {v:Value}:∀{P:nO}{vs:xF}{i:Nat}{m:yN},P.Nodup->P[i]?=some x->vs[i]?=some v->kindOf x≠some .local →
 bindC kindOf (P.zip vs) m x=some v
 |[],_,_,_,_,h,_,_=>by simp at h
 |_::_,[],_,_,_,_,h,_=>by simp at h
 |p::P,w::vs,0,m,nd,h1,h2,hk=>by
  simp at h1 h2;subst h1;subst h2;show bindC kindOf ((p,w):: P.zip vs) m p=_;unfold bindC;rw[lL λv hv=>(List.nodup_cons.mp nd).1 (List.of_mem_zip hv).1,if_neg hk];simp
 |p::P,w::vs,i+1,m,nd,h1,h2,hk=>by
  show bindC kindOf ((p,w):: P.zip vs) m x=_;unfold bindC;exact mE (i:=i) (List.nodup_cons.mp nd).2 (by simpa using h1) (by simpa using h2) hk
noncomputable def gm (N:nO)(vs:List V):St:=vs.map some++List.replicate (N.length-vs.length) none
noncomputable def fk (CX:Et)(P:zO)(w:World)(K:PySem.W.Frag)(mg:yN)(base:Heap)(N:nO)(qual:Str)(scope:Scope)(f:Addr)(cd:Value)(A:Around)(outer:List Env)(s:Fp)(H:Hp)(E:XK):Cx where
 prog:=P
 w:=w
 K:=K
 mg:=mg
 base:=base
 A:=A.deeper (envOfC qual scope s.heap.objs.size f cd)
 N:=N
 s₀:=s
 H₀:=H
 env:=envOfC qual scope s.heap.objs.size f cd
 outer:=outer
 stack:=envOfC qual scope s.heap.objs.size f cd::outer
 ex:=[]
 calm:=true
 fn:=λ_=>true
 pn:=[]
 xe:=λe s'=>wpAny (model P w) (A.deeper (envOfC qual scope s.heap.objs.size f cd)) (leaving (envOfC qual scope s.heap.objs.size f cd) e) (λ_ IA=>CX outer H s E e IA) (λe' IA=>CX outer H s E e' IA) s'
theorem oU {sc:Scope}{n:Nat}(h:sc.names.lookup x=some .cell):∃c,(cellsFrom n sc.names []).lookup x=some c:=by
 have q:=PySem.W.cellsFrom_some sc.names n [] (.inl h);exact Option.isSome_iff_exists.mp q
theorem aba {CX:Et}{qual:Str}{scope:Scope}{f:Addr}{cd:Value}{s1:Fp}{E:XK}{vs:List V}
 (S:yd N ps scope)(hd:A.handled=none)(e0:As P w K mg base A outer s H)(hl:vs.length=ps.length)(r:aR vs us)
 (x:InCallC s s.heap.objs.size (bindL (envOfC qual scope s.heap.objs.size f cd).kindOf (ps.zip us) λ_=>none) (cellsFrom (s.heap.objs.size+1) scope.names []) (bindC (envOfC qual scope s.heap.objs.size f cd).kindOf (ps.zip us) λ_=>none) s1):
 Inv (fk CX P w K mg base N qual scope f cd A outer s H E) [] (gm N vs) H s1:=by
 have HA:ps.length<=N.length:=by have:=congrArg List.length S.pre;rw[List.length_take] at this;omega
 obtain⟨h1,tk,rfl,hk⟩:=x.done;have MQ:∀b:Addr,b∉(fk CX P w K mg base N qual scope f cd A outer s H E).ex:=λb z=>absurd (show b∈([]:List Addr) from z) (by simp)
 refine⟨⟨e0.mod,S.kind,rfl,rfl,Nat.le_refl _,λy z c h1 h2=>?_,λy hy=>?_,λy c _ h=>?_,λ_=>hd,Around.frames_deeper e0.frames,.inr ⟨rfl,rfl⟩,λb z=>absurd z (MQ b),e0.bs,e0.bsz,λb _ _=>MQ b,λb z=>absurd z (MQ b),e0.aat,e0.frf⟩,
  rfl,e0.bare,Un.kept hk,⟨_,x.toInCall.ns,λi y v h1 h2 h3=>?_⟩,λy c h=>⟨_,x.cell y c h⟩,e0.hok.fresh (Nat.le_refl _),λy c h=>?_,λp hp=>absurd (show p∈([]:List (Addr×Obj)) from hp) (by simp),e0.hok.kept hk,?_⟩
 ·exact name_of_addr x.apart (PySem.mem_of_lookup h1) (PySem.mem_of_lookup h2)
 ·have hy:scope.names.lookup y=some .cell\/scope.names.lookup y=some .free:=hy
  rcases hy with hy|hy
  ·exact oU hy
  ·exact absurd rfl (S.ab4 _ (PySem.mem_of_lookup hy))
 ·exact Nat.le_of_lt (x.above y c (PySem.mem_of_lookup h))
 ·have hi:i<vs.length:=by
   unfold gm at h2
   by_cases hi:i<vs.length
   ·exact hi
   ·rw[List.getElem?_append_right (by simpa using hi)] at h2;rw[List.getElem?_replicate] at h2
    split at h2 <;> cases h2
  have ha:vs[i]?=some v:=by
   unfold gm at h2;rw[List.getElem?_append_left (by simpa using hi),List.getElem?_map] at h2
   cases e:vs[i]? with
   |none=>rw[e] at h2;cases h2
   |some a=>rw[e] at h2;cases h2;rfl
  obtain⟨u,hu,rv⟩:=r.get ha
  have hp:ps[i]?=some y:=by
   rw[<-S.pre,List.getElem?_take_of_lt (by omega)];exact h1
  have WA:ps.Nodup:=by rw[<-S.pre];exact S.nd.sublist (List.take_sublist _ _)
  refine⟨u,rv,?_⟩
  rcases S.par y (List.mem_of_getElem? hp) with k|k
  ·exact .inl ⟨k,mh WA hp hu k⟩
  ·obtain⟨c,e⟩:=oU (n:=s.heap.objs.size+1) k;refine .inr ⟨.inl k,c,e,?_⟩;have q:=x.cell y c e;rw[mE WA hp hu (by show scope.names.lookup y≠_;rw[k];decide)] at q;exact q
 ·exact e0.hok.fresh (Nat.le_of_lt (x.above y c (PySem.mem_of_lookup h)))
 ·unfold gm;show _=N.length;rw[List.length_append,List.length_map,List.length_replicate];omega
theorem rQ {CX:Et}{f:Addr}{name qual:Str}{params:Arguments}{scope:Scope}{dV kV doc pm FV ct oc:Value}{an od:zR}
 {Gp:Bp}{sp:Sp}(lk:K.lookup f=some ⟨oc,od,.func (PySem.W.fnOf name qual params body scope dV kV doc pm an FV ct),Gp⟩)(GW:PySem.W.codeIn K FV qual=true)(S:yd N ps scope)
 (len:∀vs H Q E,sp vs H Q E->vs.length=ps.length)
 (Gi:∀(A:Around)(outer:List Env)(s:Fp)(H:Hp)(vs:List V)(Q:VK)(E:XK),Fq k (A.deeper (envOfC qual scope s.heap.objs.size f FV))->sp vs H Q E →
  ∃t,hV (fk CX P w K mg base N qual scope f FV A outer s H E) body t/\t {nx:=λ_ H'=>Q .non H',rt:=Q} (gm N vs) H):
 Ef P w K mg base CX (k+1) f (PySem.W.fnOf name qual params body scope dV kV doc pm an FV ct) ps sp:=by
 refine⟨len,λA outer s H args us vs Q E hr e0 hb r HS=>?_⟩;have hl:=len _ _ _ _ HS;have KX:K.In s.heap:=e0.mod.kin.keeps λb o e=>(e0.bs b o e).1;have lim:s.heap.NoLimit:=e0.mod.nolimit.keeps λb o e=>(e0.bs b o e).1
 have HB:∀y∈ps.zip us,scope.names.lookup y.1=some .local\/(scope.names.lookup y.1=some .cell/\((cellsFrom (s.heap.objs.size+1) scope.names []).lookup y.1).isSome=true):=λ⟨n,v⟩ hy=>by
  rcases S.par n (List.of_mem_zip hy).1 with q|q
  ·exact .inl q
  ·exact .inr ⟨q,PySem.W.cellsFrom_some _ _ _ (.inl q)⟩
 refine codeAny_call_function hr.depth (KX _ _ lk) rfl S.co S.gen rfl (PySem.W.codeRec_of KX GW) (hb _ _ _ _ ?_);refine wpAny_newFunctionEnv_cells S.kind HB λenv he s1 x=>?_;subst he;refine⟨lim.keeps x.toInCall.keep,codeAny_func ?_⟩;obtain⟨t,ht,hq⟩:=Gi A outer s H vs Q E (hr.deeper _) HS;have I:Inv (fk CX P w K mg base N qual scope f FV A outer s H E) [] (gm N vs) H s1:=aba S hr.hd e0 hl r x;refine wpAny_mono (ht [] s1 (gm N vs) H _ I hq) (λfl s' hs=>?_) λe s' hs=>hs
 have fin:∀{σ':St}{H':Hp}{v:V}{u:Value},Inv (fk CX P w K mg base N qual scope f FV A outer s H E) [] σ' H' s'->aD v u->Q v H'->CE outer P w H s Q u s' :=
  λ{σ' H' v u} J rv q=>⟨v,H',J.os,J.bare,J.base,J.hok,rv,q⟩
 cases fl with
 |ret u =>
  obtain⟨v,σ',H',J,rv,q⟩:=hs;exact fin J rv q
 |next =>
  obtain⟨σ',H',J,q⟩:=hs;exact fin (v:=V.non) (u:=Value.none) J rfl q
 |brk =>
  obtain⟨_,_,_,q⟩:=hs;exact False.elim q
 |cont =>
  obtain⟨_,_,_,q⟩:=hs;exact False.elim q
section
variable {X:Cx}{x:Str}{p pos:Pos}{e:Expr}{es:wW}{t:TA}{id T:String}{r:List V->Hp->VK->Prop}
noncomputable def E3 (r:List V->Hp->VK->Prop)(t:TA):TE:=λσ H Q=>t σ H λvs H1=>r vs H1 Q
theorem aB (hc:dE X (.builtin id) r)(hg:Gl X x)(hm:X.mg x=none)(hv:bootBuiltins x=some (.builtin id))(ha:PA X (e::es) t)(hn:x ≠ "__name__":=by decide)(Iz:(x==("__debug__":Str))=false:=by decide)
 (he:starEach (e::es) X.env=(false,eval e X.env):: starEach es X.env:=by rfl)(HA:(backTo pos (starEach es X.env)).any (·.1)=false:=by rfl):PE X (.Call (.Name x p) (e::es) [] pos) (E3 r t):=by
 intro pins s σ H Q I h;refine wpAny_Call_Name_kw (dO I hg hm hv ?_ hn Iz);exact PyProof.Rows.callWith_builtin1 (bA (ha pos pins s σ H _ I h) λus s1 ⟨vs,H1,I1,r1,q1⟩=>hc pins s1 σ H1 vs us Q I1 r1 q1) he HA
theorem eW (hc:dE X (.type T) r)(hg:Gl X x)(hm:X.mg x=none)(hv:bootBuiltins x=some (.type T))(ha:PA X (e::es) t)(hn:x ≠ "__name__":=by decide)(Iz:(x==("__debug__":Str))=false:=by decide)
 (he:starEach (e::es) X.env=(false,eval e X.env):: starEach es X.env:=by rfl)(HA:(backTo pos (starEach es X.env)).any (·.1)=false:=by rfl):PE X (.Call (.Name x p) (e::es) [] pos) (E3 r t):=by
 intro pins s σ H Q I h;refine wpAny_Call_Name_kw (dO I hg hm hv ?_ hn Iz);exact PyProof.Rows.callWith_type1 (bA (ha pos pins s σ H _ I h) λus s1 ⟨vs,H1,I1,r1,q1⟩=>hc pins s1 σ H1 vs us Q I1 r1 q1) he HA
end
section
variable {κ:Type} [DecidableEq κ]
noncomputable def jc (FQ:List (κ×V))(k:κ):Option V:=(FQ.find? λkv=>decide (kv.1=k)).map (·.2)
noncomputable def dm (FQ:List (κ×V))(k:κ)(v:V):List (κ×V):=
 if(FQ.any λkv=>decide (kv.1=k))=true then FQ.map (λkv=>if kv.1=k then(kv.1,v) else kv) else FQ++[(k,v)]
theorem iK {p:κ×V}{r:List (κ×V)}{k:κ}(e:p.1=k):jc (p::r) k=some p.2:=by simp[jc,List.find?_cons,e]
theorem fY {p:κ×V}{r:List (κ×V)}{k:κ}(e:¬p.1=k):jc (p::r) k=jc r k:=by simp[jc,List.find?_cons,e]
theorem kc (k:κ):∀FQ:List (κ×V),(FQ.any λkv=>decide (kv.1=k))=(jc FQ k).isSome
 |[]=>rfl
 |p::r=>by
  rw[List.any_cons]
  by_cases e:p.1=k
  ·simp only[iK e,decide_eq_true e,Bool.true_or,Option.isSome_some]
  ·rw[fY e,decide_eq_false e,Bool.false_or];exact kc k r
theorem eA (FQ:List (κ×V))(k:κ)(v:V):(dm FQ k v).length<=FQ.length+1:=by
 unfold dm
 split
 ·rw[List.length_map];omega
 ·rw[List.length_append,List.length_cons,List.length_nil];omega
theorem fM.aaM {o:Option V}{u:Ei}(r:fM o u):o.isSome=u.isSome:=by
 cases o with
 |none=>cases u with
  |none=>rfl
  |some _=>exact(show False from r).elim
 |some _=>cases u with
  |none=>exact(show False from r).elim
  |some _=>rfl
theorem fM.getD {o:Option V}{u:Ei}{d:V}{d':Value}(r:fM o u)(rd:aD d d'):aD (o.getD d) (u.getD d'):=by
 cases o with
 |none=>cases u with
  |none=>exact rd
  |some _=>exact(show False from r).elim
 |some _=>cases u with
  |none=>exact(show False from r).elim
  |some _=>exact r
theorem KV.val {FQ:List (κ×V)}{vs:List (κ×Value)}(r:KV FQ vs)(k:κ):fM (jc FQ k) (valueAt vs k):=by
 unfold KV at r
 induction r with
 |nil=>exact True.intro
 |@cons p q ps qs h t ih =>
  obtain⟨h1,h2⟩:=h
  by_cases e:p.1=k
  ·have e':q.1=k:=h1.symm.trans e
   have b:valueAt (q::qs) k=some q.2:=by simp[valueAt,List.find?_cons,e']
   rw[iK e,b];exact h2
  ·have e':¬q.1=k:=λz=>e (h1.trans z)
   have b:valueAt (q::qs) k=valueAt qs k:=by simp[valueAt,List.find?_cons,e']
   rw[fY e,b];exact ih
theorem KV.any {FQ:List (κ×V)}{vs:List (κ×Value)}(r:KV FQ vs)(k:κ):(FQ.any λkv=>decide (kv.1=k))=vs.any λkv=>decide (kv.1=k):=by
 unfold KV at r
 induction r with
 |nil=>rfl
 |cons h t ih=>rw[List.any_cons,List.any_cons,ih,h.1]
theorem KV.ab5 {FQ:List (κ×V)}{vs:List (κ×Value)}(r:KV FQ vs)(k:κ)(ry:aD y u):
 KV (FQ.map λkv=>if kv.1=k then(kv.1,y) else kv) (vs.map λkv=>if kv.1=k then(kv.1,u) else kv):=by
 unfold KV at r |-
 induction r with
 |nil=>exact .nil
 |@cons p q ps qs h t ih =>
  rw[List.map_cons,List.map_cons];refine .cons ?_ ih;obtain⟨h1,h2⟩:=h
  by_cases e:p.1=k
  ·rw[if_pos e,if_pos (h1.symm.trans e)];exact⟨h1,ry⟩
  ·rw[if_neg e,if_neg (λz=>e (h1.trans z))];exact⟨h1,h2⟩
theorem KV.put {FQ:List (κ×V)}{vs:List (κ×Value)}(r:KV FQ vs)(k:κ)(ry:aD y u):KV (dm FQ k y) (stored vs k u):=by
 unfold dm stored;rw[r.any k]
 by_cases e:(vs.any λkv=>decide (kv.1=k))=true
 ·rw[if_pos e,if_pos e];exact r.ab5 k ry
 ·rw[if_neg e,if_neg e];exact Paired.snoc r ⟨rfl,ry⟩
theorem KV.length {FQ:List (κ×V)}{vs:List (κ×Value)}(r:KV FQ vs):FQ.length=vs.length:=Paired.length r
end
theorem lW {k:Key}(r:aD (kV k) u):(bz P w).is k u=true:=by
 cases k with
 |inl i=>obtain⟨t,e⟩:=(show ∃t,u=Value.int i t from r);subst e;exact abF P w i t
 |inr x=>obtain⟨t,e⟩:=(show ∃t,u=Value.str x t from r);subst e;exact aaf P w x t
theorem me :∀{ks:List Key}{us:xF},aR (ks.map kV) us->ItemsAre (bz P w) ks us
 |[],_,r=>by rw[List.map_nil] at r;cases r;exact .nil
 |k::ks,_,r=>by
  rw[List.map_cons] at r
  cases r with
  |cons h t=>exact .cons (lW h) (me t)
noncomputable abbrev KT (H:Hp):List (List Key×V)->List (List Key×Addr×Value)->Prop:=Paired λp q=>p.1=q.1/\H q.2.1=some (.tup (p.1.map kV))/\aD p.2 q.2.2
variable {FQ:List (List Key×V)}{xs:List (List Key×Addr×Value)}
theorem KT.val (r:KT H FQ xs)(k:List Key):fM (jc FQ k) ((atKey xs k).map (·.2)):=by
 induction r with
 |nil=>exact True.intro
 |@cons p q ps qs h t ih =>
  obtain⟨h1,_,h2⟩:=h
  by_cases e:p.1=k
  ·have e':q.1=k:=h1.symm.trans e
   have b:atKey (q::qs) k=some q.2:=by simp[atKey,List.find?_cons,e']
   rw[iK e,b];exact h2
  ·have e':¬q.1=k:=λz=>e (h1.trans z)
   have b:atKey (q::qs) k=atKey qs k:=by simp[atKey,List.find?_cons,e']
   rw[fY e,b];exact ih
theorem KT.ab5 (r:KT H FQ xs)(k:List Key)(ry:aD y u):
 KT H (FQ.map λkv=>if kv.1=k then(kv.1,y) else kv) (xs.map (putAt k u)):=by
 induction r with
 |nil=>exact .nil
 |@cons p q ps qs h t ih =>
  rw[List.map_cons,List.map_cons];refine .cons ?_ ih;obtain⟨h1,h2,h3⟩:=h;unfold putAt
  by_cases e:p.1=k
  ·rw[if_pos e,if_pos (h1.symm.trans e)];exact⟨h1,h2,ry⟩
  ·rw[if_neg e,if_neg (λz=>e (h1.trans z))];exact⟨h1,h2,h3⟩
theorem KT.put (r:KT H FQ xs)(k:List Key)(hb:H b=some (.tup (k.map kV)))(ry:aD y u):
 KT H (dm FQ k y) (storedH xs k b u):=by
 have e:(FQ.any λkv=>decide (kv.1=k))=(atKey xs k).isSome:=by
  rw[kc,(r.val k).aaM,Option.isSome_map]
 unfold dm storedH;rw[e]
 by_cases q:(atKey xs k).isSome=true
 ·rw[if_pos q,if_pos q];exact r.ab5 k ry
 ·rw[if_neg q,if_neg q];exact Paired.snoc r ⟨rfl,hb,ry⟩
theorem KT.keeps (r:KT H FQ xs)(ht:∀b ys,H b=some (.tup ys)->H' b=some (.tup ys)):KT H' FQ xs :=
 Paired.aa0 r λ_ _ z=>⟨z.1,ht _ _ z.2.1,z.2.2⟩
section
variable {P:zO}{w:World}{H:Hp}{h:Heap}{a:Addr}
theorem zg {u:HO}(ok:eK P w H h)(e:Rd H a u):br P w H h a u:=e.ok ok
theorem il {FQ:List (Key×V)}(ok:eK P w H h)(e:Rd H a (.dK FQ)):FQ.length<=sizeLine/\(a==sysModules)=false/\∃vs,KV FQ vs/\h.DictOf (bz P w) a vs :=
 show br P w H h a (.dK FQ) from zg ok e
theorem zu {FQ:List (Key×V)}(ok:eK P w H h)(e:H a=some (.dK FQ)):FQ.length<=sizeLine/\(a==sysModules)=false/\∃vs,KV FQ vs/\h.DictOf (bz P w) a vs:=il ok (.inl e)
theorem gP {ks:List Key}(ok:eK P w H h)(e:H a=some (.tup (ks.map kV))):(tupleKind (bz P w)).is h ks a:=by
 obtain⟨_,its,r,o,h1,h2,n,h3⟩:=(show br P w H h a (.tup (ks.map kV)) from ok a _ e);exact⟨o,its.toArray,n,h1,h2,h3,by simpa using me r⟩
theorem jV (ok:eK P w H h)(e:Rd H a (.dT FQ)):FQ.length<=sizeLine/\(a==sysModules)=false /\
 ∃xs,KT H FQ xs/\h.DictOfH (tupleKind (bz P w)) a xs:=by
 obtain⟨z,y,xs,r,o,es,ep,h1,h2,h3,h4,h5⟩:=(show br P w H h a (.dT FQ) from zg ok e);refine⟨z,y,xs,r,o,es,ep,h1,h2,h3,h4,λx hx=>?_,h5⟩
 have all:∀{l:List (List Key×V)}{m:List (List Key×Addr×Value)},KT H l m->∀x∈m,(tupleKind (bz P w)).is h x.1 x.2.1:=by
  intro l m q
  induction q with
  |nil=>intro x hx;exact nomatch hx
  |@cons p q ps qs hq t ih =>
   intro x hx
   rcases List.mem_cons.mp hx with e|hx
   ·subst e;exact gP ok (by rw[<-hq.1];exact hq.2.1)
   ·exact ih x hx
 exact all r x hx
theorem we (ok:eK P w H h)(e:H a=some (.dT FQ)):FQ.length<=sizeLine/\(a==sysModules)=false /\
 ∃xs,KT H FQ xs/\h.DictOfH (tupleKind (bz P w)) a xs:=jV ok (.inl e)
end
noncomputable def i7 (H:Hp)(a:Addr)(y:V)(r:Option V):Prop :=
 (∃FQ k,Rd H a (.dK FQ)/\y=kV k/\r=jc FQ k)\/∃FQ k b,Rd H a (.dT FQ)/\y=.ref b/\H b=some (.tup (k.map kV))/\r=jc FQ k
noncomputable def oI (H:Hp)(a:Addr)(y v:V)(H':Hp):Prop :=
 (∃FQ k,H a=some (.dK FQ)/\y=kV k/\FQ.length<sizeLine/\H'=upd H a (.dK (dm FQ k v))) \/
 ∃FQ k b,H a=some (.dT FQ)/\y=.ref b/\H b=some (.tup (k.map kV))/\FQ.length<sizeLine/\H'=upd H a (.dT (dm FQ k v))
theorem i7.t {b:Addr}{k:List Key}(e:H a=some (.dT FQ))(eb:H b=some (.tup (k.map kV))):i7 H a (.ref b) (jc FQ k):=.inr ⟨FQ,k,b,.inl e,rfl,eb,rfl⟩
theorem oI.t {b:Addr}{k:List Key}(e:H a=some (.dT FQ))(eb:H b=some (.tup (k.map kV)))(hl:FQ.length<sizeLine):
 oI H a (.ref b) v (upd H a (.dT (dm FQ k v))):=.inr ⟨FQ,k,b,e,rfl,eb,hl,rfl⟩
section
variable {X:Cx}{pins:List (Addr×Obj)}{σ:St}{H:Hp}{s:Fp}{a:Addr}{y v:V}{u r:Value}{o:Option V}{A:Around}{E:oP}
theorem Inv.big (I:Inv X pins σ H s):sysModules<s.heap.objs.size:=by
 have h:mainGlobals<s.heap.objs.size:=(I.mod.glob.keeps I.bk).lt;exact Nat.lt_trans (by decide) h
theorem acR {Q:oP}(hu:A.units+1<cLine)(I:Inv X pins σ H s)(g:i7 H a y (some v))(ry:aD y u)(h:∀w' s',Inv X pins σ H s'->aD v w'->Q w' s'):
 wpAny (model X.prog X.w) A (getItem (.ref a) u) Q E s:=by
 rcases g with⟨FQ,k,e,ey,l⟩|⟨FQ,k,b,e,ey,eb,l⟩
 ·subst ey;obtain⟨z,hd,vs,rel,dd⟩:=il I.hok e;obtain⟨w',hw,GD⟩:=fM.some_of (v:=v) (o:=valueAt vs k) (by rw[l];exact rel.val k);exact wpAny_getItem_of (lW ry) dd.mapOf hw (h w' _ (I.tok _) GD)
 ·subst ey
  cases(show u=Value.ref b from ry)
  obtain⟨z,hd,xs,rel,dd⟩:=jV I.hok e;obtain⟨w',hw,GD⟩:=fM.some_of (v:=v) (o:=(atKey xs k).map (·.2)) (by rw[l];exact rel.val k);obtain⟨p,hp,YI⟩:=Option.map_eq_some_iff.mp hw;refine wpAny_getItem_heap (tupleKind_room_in1 hu) (gP I.hok eb) dd hp ?_;rw[YI];exact h w' _ (I.tok _) GD
theorem acS {Q:oP}(hu:A.units+1<cLine)(I:Inv X pins σ H s)(g:i7 H a y o)(ry:aD y u)(h:∀s',Inv X pins σ H s'->Q (.bool o.isSome) s'):
 wpAny (model X.prog X.w) A (compareOp .In u (.ref a)) Q E s:=by
 rcases g with⟨FQ,k,e,ey,l⟩|⟨FQ,k,b,e,ey,eb,l⟩
 ·subst ey;obtain⟨z,hd,vs,rel,dd⟩:=il I.hok e;refine wpAny_in_of (lW ry) hd dd.mapOf ?_;rw[<-(rel.val k).aaM,<-l];exact h _ (I.tok _)
 ·subst ey
  cases(show u=Value.ref b from ry)
  obtain⟨z,hd,xs,rel,dd⟩:=jV I.hok e;refine wpAny_in_heap (tupleKind_room_in1 hu) (gP I.hok eb) hd dd ?_;have q:=(rel.val k).aaM;rw[Option.isSome_map] at q;rw[<-q,<-l];exact h _ (I.tok _)
theorem iq {h':Heap}{t':Nat}{ob:HO}(I:Inv X pins σ H s)(mu:Cd (H a))(hs:Heap.SameBut a s.heap h')(he:∃q,h'.get? a=some q)(new:br X.prog X.w (upd H a ob) h' a ob):
 Inv X pins σ (upd H a ob) {s with heap:=h',toks:=t'}:=
 I.write (x:=a) (e:=a) mu (.inl rfl) (λb q hb z=>(hs.2 b hb).trans z) he new
theorem wV {h':Heap}{FQ:List (Key×V)}{vs:List (Key×Value)}(z:FQ.length<=sizeLine)(hd:(a==sysModules)=false)(rel:KV FQ vs)(dd:h'.DictOf (bz P w) a vs):
 br P w H' h' a (.dK FQ):=⟨z,hd,vs,rel,dd⟩
theorem acT {Q:Unit->Shared->Prop}(hu:A.units+1<cLine)(I:Inv X pins σ H s)(g:oI H a y v H')(ry:aD y u)(rv:aD v r)(h:∀s',Inv X pins σ H' s'->Q () s'):
 wpAny (model X.prog X.w) A (setItem (.ref a) u r) Q E s:=by
 rcases g with⟨FQ,k,e,ey,l,eH⟩|⟨FQ,k,b,e,ey,eb,l,eH⟩
 ·subst ey eH;obtain⟨z,hd,vs,rel,dd⟩:=zu I.hok e
  have hz:vs.length<=sizeLine:=by rw[<-rel.length];exact z
  have hl:(dm FQ k v).length<=sizeLine:=by have:=eA FQ k v;omega
  refine wpAny_setItem_pairs (hsz:=hz) (lW ry) dd λh' IB hs=>h _ ?_;have he:∃q,h'.get? a=some q:=let⟨q,_,_,hq,_⟩:=IB;⟨q,hq⟩;exact iq I (by rw[e];exact True.intro) hs he (wV hl hd (rel.put k rv) IB)
 ·subst ey eH
  cases(show u=Value.ref b from ry)
  obtain⟨z,hd,xs,rel,dd⟩:=we I.hok e
  have hz:xs.length<=sizeLine:=by rw[<-Paired.length rel];exact z
  have hl:(dm FQ k v).length<=sizeLine:=by have:=eA FQ k v;omega
  refine wpAny_setItem_heap (hsz:=hz) (tupleKind_room_in1 hu) (gP I.hok eb) dd λh' IB hs=>h _ ?_;obtain⟨q,es,ep,hq,h2,h3,h4,_,h5⟩:=IB;refine iq I (by rw[e];exact True.intro) hs ⟨q,hq⟩ ⟨hl,hd,_,(rel.put k eb rv).keeps λc ys ec=>?_,q,es,ep,hq,h2,h3,h4,h5⟩;rw[ai (kQ ec e (λz=>nomatch z))];exact ec
end
noncomputable def CJ (i:Expr):Prop:=∀ov iv,subscripted i false ov iv=operate [ov,iv] (getItem ov iv)
theorem acU {prog:zO}{E:oP}{env:Env}{value slice:Expr}{T id:String}{Q:oP}
 (hl:typeLookup (.type T) "__getitem__"=pure (some (.builtin id)))(hs:CJ slice)
 (h:wpAny (model prog w) A (eval value env) (λo s₁=>wpAny (model prog w) A (eval slice env) (λi s₂=>s₂.TypeIs o T/\wpAny (model prog w) A (getItem o i) Q E s₂) E s₁) E s):
 wpAny (model prog w) A (eval (.Subscript value slice pos) env) Q E s:=by
 refine Subscript_ (wpAny_mono h (λo s₁ h₁=>wpAny_mono h₁ (λi s₂ h₂=>?_) λ_ _ x=>x) λ_ _ x=>x);obtain⟨hT,h₂⟩:=h₂;unfold subscriptTail;refine wpAny_bind ?_;rw[getitemInPython_of_ne hT.not_modules];refine wpAny_bind (wpAny_specialOf hT hl ?_)
 have fin:wpAny (model prog w) A (subscripted slice false o i) (λr s₃=>wpAny (model prog w) A (letTemporaryGo value o r>>=λ_=>pure r) Q E s₃) E s₂:=by
  rw[hs o i];exact wpAny_operating (wpAny_mono h₂ (λr s₃ h₃=>wpAny_bind (wpAny_letTemporaryGo (wpAny_pure h₃))) λ_ _ x=>x)
 first
  |exact wpAny_pure (wpAny_bind fin)
  |exact wpAny_bind (wpAny_pure (wpAny_bind fin))
  |exact wpAny_bind fin
theorem acV {o:Option V}(I:Inv X pins σ H s)(g:i7 H a y o):s.TypeIs (.ref a) "dict":=by
 rcases g with⟨FQ,k,e,_,_⟩|⟨FQ,k,b,e,_,_,_⟩
 ·obtain⟨_,_,vs,_,dd⟩:=il I.hok e;exact dd.typeIs
 ·obtain⟨_,_,xs,_,dd⟩:=jV I.hok e;exact dd.typeIs
noncomputable def acW (td ty:TE):TE:=λσ H Q=>td σ H λx H1=>ty σ H1 λy H2=>∃a v,x=.ref a/\i7 H2 a y (some v)/\Q v H2
noncomputable def adB (ty td:TE):TE:=λσ H Q=>ty σ H λy H1=>td σ H1 λx H2=>∃a o,x=.ref a/\i7 H2 a y o/\Q (.bl o.isSome) H2
noncomputable def adH (td ty tv:TE):TS:=λD σ H=>tv σ H λv H1=>td σ H1 λx H2=>ty σ H2 λy H3=>∃a H4,x=.ref a/\oI H3 a y v H4/\D.nx σ H4
section
variable {X:Cx}{o i e value:Expr}{pos pos' RW:Pos}{td ty tv:TE}
theorem nG (hu:X.A.units+1<cLine)(ho:PE X o td)(hi:PE X i ty)(hs:CJ i):PE X (.Subscript o i pos) (acW td ty):=by
 intro pins s σ H Q I h;refine acU PySem.F.slot_dict_getitem.lookup hs (bA (ho pins s σ H _ I h) λu s1 ⟨x,H1,I1,rx,q1⟩=>bA (hi pins s1 σ H1 _ I1 q1) λiv s2 z'=>?_);obtain⟨y,H2,I2,ry,a,v,ex,g,q2⟩:=z';subst ex;obtain rfl:u=Value.ref a:=rx;exact⟨acV I2 g,acR hu I2 g ry λw' s3 I3 GD=>⟨v,H2,I3,GD,q2⟩⟩
theorem adI (hu:X.A.units+1<cLine)(hi:PE X i ty)(ho:PE X o td):PC X .In i o (adB ty td):=by
 intro pins s σ H Q I h;refine bA (hi pins s σ H _ I h) λiv s1 ⟨y,H1,I1,ry,q1⟩=>bA (ho pins s1 σ H1 _ I1 q1) λu s2 z'=>?_;obtain⟨x,H2,I2,rx,a,ov,ex,g,q2⟩:=z';subst ex;obtain rfl:u=Value.ref a:=rx;exact acS hu I2 g ry λs3 I3=>⟨.bl ov.isSome,H2,I3,rfl,q2⟩
theorem qY (hu:X.A.units+1<cLine)(ho:PE X o td)(hi:PE X i ty)(hv:PE X value tv)(hs:swapsWith value (some (.Subscript o i pos')) pos.line X.env=pure false):
 PS X (.Assign [.Subscript o i pos'] value pos) (adH td ty tv):=by
 intro pins s σ H D I h;refine wpAny_Assign_Subscript (bA (hv pins s σ H _ I h) λr s1 ⟨v,H1,I1,rv,q1⟩=>bA (ho pins s1 σ H1 _ I1 q1) λu s2 ⟨x,H2,I2,rx,q2⟩=>bA (hi pins s2 σ H2 _ I2 q2) λiv s3 z'=>?_) hs;obtain⟨y,H3,I3,ry,a,H4,ex,g,q3⟩:=z';subst ex;obtain rfl:u=Value.ref a:=rx;exact acT hu I3 g ry rv λs4 I4=>⟨σ,H4,I4,q3⟩
end
theorem oN (h:Heap)(hb:sysModules<h.objs.size):br P w H (h.push {cls:=.type "dict",data:=.dict #[]}) h.objs.size (.dK []):=
 ⟨Nat.zero_le _,beq_eq_false_iff_ne.mpr (Ne.symm (Nat.ne_of_lt hb)),[],.nil,Heap.DictOf.new h⟩
theorem ky (h:Heap)(hb:sysModules<h.objs.size):br P w H (h.push {cls:=.type "dict",data:=.dict #[]}) h.objs.size (.dT []):=
 ⟨Nat.zero_le _,beq_eq_false_iff_ne.mpr (Ne.symm (Nat.ne_of_lt hb)),[],.nil,_,#[],0,Heap.get?_push_size _ rfl,⟨rfl,rfl,rfl⟩,rfl,rfl,List.nodup_nil⟩
noncomputable def pI:TE:=λ_ H Q=>∀p,H p=none->Q (.ref p) (upd H p (.dK []))
noncomputable def ab6:TE:=λ_ H Q=>∀p,H p=none->Q (.ref p) (upd H p (.dT []))
section
variable {X:Cx}{pos:Pos}
theorem oX:PE X (.Dict [] [] pos) pI:=λpins s σ H Q I h =>
 wpAny_Dict_empty ⟨.ref s.heap.objs.size,_,I.laid (a:=s.heap.objs.size) (o:=.dK []) (t':=s.toks) (λ_ _ q=>Heap.get?_push_of_some _ q) (Nat.le_refl _) (oN s.heap I.big),rfl,h _ (I.hok.fresh (Nat.le_refl _))⟩
theorem jL:PE X (.Dict [] [] pos) ab6:=λpins s σ H Q I h =>
 wpAny_Dict_empty ⟨.ref s.heap.objs.size,_,I.laid (a:=s.heap.objs.size) (o:=.dT []) (t':=s.toks) (λ_ _ q=>Heap.get?_push_of_some _ q) (Nat.le_refl _) (ky s.heap I.big),rfl,h _ (I.hok.fresh (Nat.le_refl _))⟩
end
noncomputable def p5:List (TE×TE)->St->Hp->(List (V×V)->Hp->Prop)->Prop
 |[],_,H,Q=>Q [] H
 |(tk,tv):: r,σ,H,Q=>tk σ H λx H1=>tv σ H1 λy H2=>p5 r σ H2 λps H3=>Q ((x,y):: ps) H3
noncomputable abbrev VV:List (V×V)->List (Value×Value)->Prop:=Paired λp q=>aD p.1 q.1/\aD p.2 q.2
noncomputable def Dr (X:Cx)(pos:Pos)(keys:List (Option Expr))(values:wW)(Jw:List (TE×TE)):Prop :=
 ∀(pins:List (Addr×Obj))(s:Fp)(σ:St)(H:Hp)(Q:List (V×V)->Hp->Prop),Inv X pins σ H s->p5 Jw σ H Q →
  wpAny (model X.prog X.w) X.A (evalPairs (pairTrees keys values X.env pos)) (λvs s'=>∃ps H',Inv X pins σ H' s'/\VV ps vs/\Q ps H') X.xe s
theorem TIp :Dr X pos [] [] []:=λpins s σ H Q I h=>pairTrees_nil_walk ⟨[],H,I,.nil,h⟩
theorem abo {k v:Expr}{ks:List (Option Expr)}{vs:wW}{tk tv:TE}{Jw:List (TE×TE)}(hk:PE X k tk)(hv:PE X v tv)(hr:Dr X pos ks vs Jw):
 Dr X pos (some k::ks) (v::vs) ((tk,tv):: Jw):=λpins s σ H Q I h =>
 pairTrees_cons_walk (bA (hk pins s σ H _ I h) λu s1 ⟨x,H1,I1,rx,q1⟩=>bA (hv pins s1 σ H1 _ I1 q1) λw2 s2 ⟨y,H2,I2,ry,q2⟩ =>
  bA (hr pins s2 σ H2 _ I2 q2) λws s3 ⟨ps,H3,I3,rel,q3⟩=>⟨(x,y):: ps,H3,I3,.cons ⟨rx,ry⟩ rel,q3⟩)
noncomputable def jW (FQ more:List (Key×V)):List (Key×V):=more.foldl (λacc kv=>dm acc kv.1 kv.2) FQ
theorem KV.merge:∀{more:List (Key×V)}{rs:List (Key×Value)}{FQ:List (Key×V)}{vs:List (Key×Value)},KV more rs->KV FQ vs->KV (jW FQ more) (merged vs rs):=by
 intro more rs FQ vs r;unfold KV at r
 induction r generalizing FQ vs with
 |nil=>intro q;exact q
 |@cons p q ps qs h t ih =>
  intro r0
  have e:KV (dm FQ p.1 p.2) (stored vs q.1 q.2):=by
   have:=r0.put p.1 h.2;rw[<-h.1];exact this
  exact ih e
theorem gM:∀(more FQ:List (Key×V)),(jW FQ more).length<=FQ.length+more.length
 |[],FQ=>by show FQ.length<=FQ.length+0;omega
 |p::r,FQ=>by
  have h1:=gM r (dm FQ p.1 p.2);have h2:=eA FQ p.1 p.2;show(jW (dm FQ p.1 p.2) r).length<=_;rw[List.length_cons];omega
theorem kJ {P:zO}{w:World}:∀{FQ:List (Key×V)}{ws:List (Value×Value)},VV (FQ.map λkv=>(kV kv.1,kv.2)) ws->∃rs,Carries (bz P w) ws rs/\KV FQ rs
 |[],_,r=>by rw[List.map_nil] at r;cases r;exact⟨[],True.intro,.nil⟩
 |p::FQ,_,r=>by
  rw[List.map_cons] at r
  cases r with
  |@cons a b as bs h t =>
   obtain⟨rs,c,q⟩:=kJ (P:=P) (w:=w) t;obtain⟨b1,b2⟩:=b;exact⟨(p.1,b2):: rs,⟨lW h.1,rfl,c⟩,.cons ⟨rfl,h.2⟩ q⟩
noncomputable def aa2 (Jw:List (TE×TE)):TE:=λσ H Q=>∀p,H p=none->p5 Jw σ (upd H p (.dK [])) λps H2=>H2 p=some (.dK [])/\∃FQ:List (Key×V),ps=FQ.map (λkv=>(kV kv.1,kv.2))/\FQ.length<=15/\Q (.ref p) (upd H2 p (.dK (jW [] FQ)))
theorem Few {keys:List (Option Expr)}{values:wW}{Jw:List (TE×TE)}(h:Dr X pos keys values Jw)(Ig:keys.all (·.isSome)=true)(hl:keys.length=values.length)(h0:keys≠[])
 (h15:keys.length<=15):PE X (.Dict keys values pos) (aa2 Jw):=by
 intro pins s σ H Q I q;have hn:=I.hok.fresh (Nat.le_refl s.heap.objs.size);have I1:=I.laid (a:=s.heap.objs.size) (o:=.dK []) (h':=s.heap.push {cls:=.type "dict",data:=.dict #[]}) (t':=s.toks) (λ_ _ q=>Heap.get?_push_of_some _ q) (Nat.le_refl _) (oN s.heap I.big);refine wpAny_Dict_walk (knd:=bz X.prog X.w) Ig hl h0 h15 (bA (h pins _ σ _ _ I1 (q _ hn)) λws s2 z'=>?_);obtain⟨ps,H2,I2,rel,e,FQ,ep,lk,q2⟩:=z';subst ep;obtain⟨rs,c,rk⟩:=kJ (P:=X.prog) (w:=X.w) rel;obtain⟨z,hd,vs0,r0,dd⟩:=zu I2.hok e
 cases r0
 refine⟨rs,c,dd,λh' IB hs=>⟨.ref s.heap.objs.size,_,?_,rfl,q2⟩⟩
 have hz:(jW [] FQ).length<=sizeLine:=by
  have h1:=gM FQ [];rw[List.length_nil] at h1;rw[sizeLine_eq];omega
 have he:∃q,h'.get? s.heap.objs.size=some q:=let⟨q,_,_,hq,_⟩:=IB;⟨q,hq⟩;exact iq I2 (by rw[e];exact True.intro) hs he (wV hz hd (rk.merge .nil) IB)
structure M2 (X:Cx)(o:Expr)(m:Str)(apos:Pos)(e f:Expr)(Gj:Pos):Prop where
 base:attributeBase o m X.env (eval o X.env)=eval o X.env
 few:((backTo Gj (starEach [e,f] X.env)).all (λx=>!x.1)&&(backToKw Gj (keywordEach [] X.env)).all (λx=>x.1.isSome)
  && decide (([e,f]:wW).length+([]:List Keyword).length+(if([]:List Keyword).isEmpty then 0 else 1)<30))=true
 line:(apos.endLine==Gj.line)=true
 trees:backTo Gj (starEach [e,f] X.env)=[(false,eval e X.env),(false,eval f X.env)]
noncomputable def E6 (H:Hp)(a:Addr):Prop:=(∃FQ,Rd H a (.dK FQ))\/∃FQ,Rd H a (.dT FQ)
theorem t12 (I:Inv X pins σ H s)(d:E6 H a):
 s.TypeIs (.ref a) "dict"/\(∀b,Value.ref a=.ref b->∃ob,s.heap.get? b=some ob/\ob.dict=none)/\(a==sysModules)=false:=by
 rcases d with⟨FQ,e⟩|⟨FQ,e⟩
 ·obtain⟨_,hd,vs,_,dd⟩:=il I.hok e;refine⟨dd.typeIs,λb q=>?_,hd⟩
  cases q
  obtain⟨ob,_,_,h1,h2,_⟩:=dd;exact⟨ob,h1,h2.2.1⟩
 ·obtain⟨_,hd,xs,_,dd⟩:=jV I.hok e;refine⟨dd.typeIs,λb q=>?_,hd⟩
  cases q
  obtain⟨ob,_,_,h1,h2,_⟩:=dd;exact⟨ob,h1,h2.2.1⟩
section
variable {X:Cx}{pins:List (Addr×Obj)}{σ:St}{H:Hp}{s:Fp}{a:Addr}{y d:V}{u r:Value}{o:Option V}{A:Around}{E:oP}
theorem abA {Q:oP}(hu:A.units+1<cLine)(I:Inv X pins σ H s)(g:i7 H a y o)(ry:aD y u)(rd:aD d r)(h:∀w' s',Inv X pins σ H s'->aD (o.getD d) w'->Q w' s'):
 wpAny (model X.prog X.w) A (call (.builtin "dict.get") [.ref a,u,r]) Q E s:=by
 rcases g with⟨FQ,k,e,ey,l⟩|⟨FQ,k,b,e,ey,eb,l⟩
 ·subst ey;obtain⟨z,hd,vs,rel,dd⟩:=il I.hok e;refine call_meetsIn PySem.F.slot_dict_get dd.typeIs PySem.F.entry_dict_get (PySem.F.args_dict_get_3 _ _ _) (meets_dict_get_default (bz X.prog X.w) a (lW ry) hd r) ⟨_,dd.mapOf,h _ _ (I.tok _) ?_⟩;rw[l];exact(rel.val k).getD rd
 ·subst ey
  cases(show u=Value.ref b from ry)
  obtain⟨z,hd,xs,rel,dd⟩:=jV I.hok e;refine call_meetsIn PySem.F.slot_dict_get dd.typeIs PySem.F.entry_dict_get (PySem.F.args_dict_get_3 _ _ _) (meetsH_dict_get_default (tupleKind (bz X.prog X.w)) a b hd r) ⟨tupleKind_room_in1 hu,k,xs,gP I.hok eb,dd,h _ _ (I.tok _) ?_⟩;rw[l];exact(rel.val k).getD rd
end
noncomputable def abH (td ty tx:TE):TE:=λσ H Q=>td σ H λx H1=>∃a,x=.ref a/\E6 H1 a/\ty σ H1 λy H2=>tx σ H2 λz H3=>∃o,i7 H3 a y o/\Q (o.getD z) H3
section
variable {X:Cx}{o e f:Expr}{apos Gj:Pos}{td ty tx:TE}
theorem abk (hu:X.A.units+1<cLine)(ho:PE X o td)(he:PE X e ty)(hf:PE X f tx)(m:M2 X o "get" apos e f Gj):PE X (.Call (.Attribute o "get" apos) [e,f] [] Gj) (abH td ty tx):=by
 intro pins s σ H Q I h;refine wpAny_Call_method m.base m.few m.line PySem.F.plainAttrs_dict PySem.F.slot_dict_get PySem.F.type_dict_get (bA (ho pins s σ H _ I h) λu s1 z'=>?_);obtain⟨x,H1,I1,rx,a,ex,d,q1⟩:=z';subst ex;obtain rfl:u=Value.ref a:=rx;obtain⟨t1,t2,_⟩:=t12 I1 d;refine⟨t1,t2,?_⟩;rw[m.trees]
 refine Calls.callWith_builtin rfl (Calls.evalArgs_plain (Calls.spliced_cons (bA (he pins s1 σ H1 _ I1 q1) λiv s2 ⟨y,H2,I2,ry,q2⟩ =>
  Calls.spliced_cons (bA (hf pins s2 σ H2 _ I2 q2) λfv s3 ⟨z,H3,I3,rz,ov,g,q3⟩=>Calls.spliced_nil ?_))))
 exact abA hu I3 g ry rz λw' s4 I4 GD=>⟨_,H3,I4,GD,q3⟩
end
end L2
namespace HT
open PySem PyProof.Rows
noncomputable def c5:List Int->List Int->Bool
 |[],[]=>false
 |[],_::_=>true
 |_::_,[]=>false
 |x::xs,y::ys=>if x=y then c5 xs ys else decide (x<y)
theorem dS (x y:Int)(xs ys:List Int):c5 (x::xs) (y::ys)=if x=y then c5 xs ys else decide (x<y):=rfl
theorem aaN:c5 [] []=false:=rfl
theorem aa3 (y:Int)(ys:List Int):c5 [] (y::ys)=true:=rfl
theorem aaT (x:Int)(xs:List Int):c5 (x::xs) []=false:=rfl
theorem aaU (A:Around)(s:Fp)(a:Int)(t:Tok)(c:Int)(u:Tok):∃e,SeqAt.EqAt A s (.int a t) (.int c u) e/\(e=true↔a=c):=
 ⟨(a==c),SeqAt.EqAt.int_int a t c u,by simp⟩
theorem ab9 (A:Around)(s:Fp)(a:Int)(t:Tok)(c:Int)(u:Tok)(prog:zO)(w:World)(E:oP)(Q:oP)(h:Q (.bool (decide (a<c))) s):
 wpAny (model prog w) A (richCompare .Lt (.int a t) (.int c u)) Q E s :=
 (PyProof.Rows.lt_int h:wpAny (model prog w) A (compareOp .Lt (.int a t) (.int c u)) Q E s)
section
open PySem.SeqAt
open PySem.AutoSeq1 (wpAny_loadPart')
open PySem.MeetsSeq PySem.MeetsSeq2 PySem.MeetsSeq3
theorem aca (l b:Addr)(items Gk:va)(n n2:Nat)(dd RY:zR)(sl Mp:Bp)(ns ms:List Int)(hi:IntsAre items.toList ns)(hj:IntsAre Gk.toList ms):
 Meets (Builtin.«tuple.__lt__» ⟨[.ref l,.ref b],[]⟩)
  (λ_ R s=>s.heap.get? l=some {cls:=.type "tuple",dict:=dd,data:=.seq items n,slots:=sl}/\s.heap.get? b=some {cls:=.type "tuple",dict:=RY,data:=.seq Gk n2,slots:=Mp} /\
   R (.ok (.ret (.bool (c5 ns ms)))) s):=
 .of_wp λprog w A R s h=>by
  obtain⟨hp,g,d,tk,os⟩:=s;obtain⟨hl,hb,h⟩:=h;have f2:=AutoSeq1.sub_tuple_tuple
  have z1:items.size=ns.length:=by rw[<-hi.length];simp
  have z2:Gk.size=ms.length:=by rw[<-hj.length];simp
  wp_walk using wpAny_loadPart' hl,wpAny_loadPart' hb,wpAny_forIn_list _ (λrest b s'=>b.1=none/\s'=⟨hp,g,d,tk,os⟩/\∃(vs ws:xF)(Mq Mr:List Int),rest=vs.zip ws /\
   IntsAre vs Mq/\IntsAre ws Mr/\Mq.length+Gk.size=Mr.length+items.size/\R (.ok (.ret (.bool (c5 Mq Mr)))) ⟨hp,g,d,tk,os⟩) _
  case turn =>
   rintro⟨y,x⟩ rest b s' ⟨Gs,rfl,vs,ws,Mq,Mr,hz,RZ,Rm,hlen,hR⟩
   cases RZ with
   |nil=>rw[List.zip_nil_left] at hz;cases hz
   |cons a t R0 =>
    cases Rm with
    |nil=>rw[List.zip_nil_right] at hz;cases hz
    |cons c u R7 =>
     rw[List.zip_cons_cons] at hz
     injection hz with YJ MR
     injection YJ with hy hx
     subst hy hx;rw[dS] at hR;simp only[List.length_cons] at hlen;obtain⟨e,he,MT⟩:=aaU A.in1 ⟨hp,g,d,tk,os⟩ a t c u;refine wpAny_bind (he prog w _ _ ?_)
     cases e with
     |true =>
      rw[if_pos (MT.mp rfl)] at hR
      wp_walk
      exact⟨rfl,rfl,_,_,_,_,MR,R0,R7,by omega,hR⟩
     |false =>
      rw[if_neg (λq=>absurd (MT.mpr q) Bool.false_ne_true)] at hR;have YK:=ab9 A.in1 ⟨hp,g,d,tk,os⟩ a t c u prog w
      wp_walk using YK
      exact⟨_,rfl,by simpa using hR⟩
  case fin =>
   rintro⟨b1,b2⟩ s' ⟨Gs,rfl,vs,ws,Mq,Mr,hz,RZ,Rm,hlen,hR⟩;simp only at Gs;subst Gs
   have hv:c5 Mq Mr=decide (items.size<Gk.size):=by
    cases RZ with
    |nil =>
     cases Rm with
     |nil =>
      simp only[List.length_nil] at hlen;rw[aaN];exact(decide_eq_false (by omega)).symm
     |cons c u hw =>
      simp only[List.length_nil,List.length_cons] at hlen;rw[aa3];exact(decide_eq_true (by omega)).symm
    |cons a t hv =>
     cases Rm with
     |nil =>
      simp only[List.length_nil,List.length_cons] at hlen;rw[aaT];exact(decide_eq_false (by omega)).symm
     |cons c u hw =>
      rw[List.zip_cons_cons] at hz
      cases hz
   rw[hv] at hR
   wp_walk
   exact⟨_,rfl,by simpa[Builtin.Tuple.tupleCompareSizes] using hR⟩
  case h =>
   exact⟨rfl,rfl,items.toList,Gk.toList,ns,ms,rfl,hi,hj,by omega,h⟩
end
section
variable {prog:zO}{w:World}{A:Around}{E:oP}{s:Fp}
theorem abB {l b:Addr}{items Gk:va}{ns ms:List Int}{Q:oP}(hl:IsTup s.heap l items)(hb:IsTup s.heap b Gk)(hi:IntsAre items.toList ns)(hj:IntsAre Gk.toList ms)
 (hu:A.units<cLine)(h:Q (.bool (c5 ns ms)) s):wpAny (model prog w) A (compareOp .Lt (.ref l) (.ref b)) Q E s:=by
 obtain⟨⟨cls,dd,data,sl⟩,ho,hc,n,hd⟩:=id hl;obtain⟨⟨YL,RY,data2,Mp⟩,WB,Kc,n2,hd2⟩:=id hb;simp only at hc hd Kc hd2;subst hc hd Kc hd2
 exact richCompare_meets_room (op:=.Lt) ⟨_,ho,rfl⟩ ⟨_,WB,rfl⟩ PySem.F.slot_tuple_lt PySem.F.entry_tuple_lt (PySem.F.args_tuple_lt_2 _ _) (aca l b items Gk n n2 dd RY sl Mp ns ms hi hj)
  ⟨ho,WB,show Value.bool (c5 ns ms)≠Value.notImplemented/\Q (.bool (c5 ns ms)) s from⟨(λx=>nomatch x),h⟩⟩ hu
noncomputable def d9 (n d:Nat):Option Int->Nat
 |none=>d
 |some v=>if v<0 then(v+(n:Int)).toNat else min v.toNat n
theorem rEq (n d:Nat)(hd:d<=n)(o:Option Int):d9 n d o<=n:=by
 cases o with
 |none=>exact hd
 |some v =>
  show(if v<0 then(v+(n:Int)).toNat else min v.toNat n)<=n
  by_cases hv:v<0
  ·rw[if_pos hv];omega
  ·rw[if_neg hv];exact Nat.min_le_right _ _
theorem rm (v:Int)(n d:Nat):(if v<0 then max (v+(n:Int)) 0 else min v (n:Int))=((d9 n d (some v):Nat):Int):=by
 show(if v<0 then max (v+(n:Int)) 0 else min v (n:Int))=(((if v<0 then(v+(n:Int)).toNat else min v.toNat n):Nat):Int)
 by_cases hv:v<0
 ·simp only[if_pos hv];omega
 ·simp only[if_neg hv];omega
theorem abC (lo hi:Option Int)(n:Nat):Builtin.Slice.sliceAdjust lo hi 1 (n:Int)=(((d9 n 0 lo:Nat):Int),((d9 n n hi:Nat):Int)):=by
 have h1:¬((1:Int)<0):=by omega
 unfold Builtin.Slice.sliceAdjust;simp only[h1,if_false];refine Prod.ext ?_ ?_
 ·cases lo with
  |none=>rfl
  |some v=>exact rm v n 0
 ·cases hi with
  |none=>rfl
  |some v=>exact rm v n n
theorem abG (i j:Nat):Builtin.Slice.slicePlaces (i:Int) (j:Int) 1=j-i:=by
 unfold Builtin.Slice.slicePlaces
 have h1:(1:Int)>0:=by omega
 simp only[h1,if_true,Int.ediv_one]
 split <;> omega
theorem jQ {v:Value}{o:Option Int}{Q:Option Int->Shared->Prop}(p:IsPart v o)(h:Q o s):wpAny (model prog w) A (Builtin.Slice.slicePartIndex v) Q E s:=by
 cases p with
 |none=>exact slicePart_none h
 |int i t=>exact slicePart_int h
theorem eQ {sl:Addr}{vl vu:Value}{lo hi:Option Int}{n:Nat}{Q:Int×Int×Nat->Shared->Prop}(hs:s.heap.IsSliceOf sl vl vu .none)(pl:IsPart vl lo)(pu:IsPart vu hi)
 (h:Q (((d9 n 0 lo:Nat):Int),1,d9 n n hi-d9 n 0 lo) s):wpAny (model prog w) A (Builtin.Slice.sliceApplied (.ref sl) (pure (n:Int))) Q E s:=by
 obtain⟨os,K8,Ms,MU⟩:=id hs;unfold Builtin.Slice.sliceApplied Builtin.Slice.sliceFields;refine wpAny_bind (wpAny_bind (wpAny_field K8 MU (x:=vl) rfl (wpAny_bind (wpAny_field K8 MU (x:=vu) rfl (wpAny_bind (wpAny_field K8 MU (x:=.none) rfl (wpAny_pure ?_)))))));refine wpAny_bind (slicePart_none ?_);show wpAny _ _ (if((1:Int)==0)=true then _ else _) _ _ s;rw[if_neg (by decide)];refine wpAny_bind (jQ pl (wpAny_bind (jQ pu (wpAny_bind (wpAny_pure ?_)))));show wpAny _ _ (match Builtin.Slice.sliceAdjust lo hi 1 (n:Int) with|(lo,hi)=>pure (lo,(1:Int),Builtin.Slice.slicePlaces lo hi 1)) _ _ s;rw[abC lo hi n];show wpAny _ _ (pure (((d9 n 0 lo:Nat):Int),(1:Int),Builtin.Slice.slicePlaces ((d9 n 0 lo:Nat):Int) ((d9 n n hi:Nat):Int) 1)) _ _ s;rw[abG];exact wpAny_pure h
theorem acj (xs:va)(i k:Nat):((List.range k).filterMap λ(m:Nat)=>xs[((i:Int)+(m:Int)*1).toNat]?).toArray=((xs.toList.drop i).take k).toArray:=by
 have e:(λ(m:Nat)=>xs[((i:Int)+(m:Int)*1).toNat]?)=λm=>xs[i+m]?:=by
  funext m
  have:((i:Int)+(m:Int)*1).toNat=i+m:=by omega
  rw[this]
 rw[e];have:=pick_run xs i k;rw[List.filterMap_map] at this;have e2:((λx=>xs[x]?) ∘ λx=>i+x)=λm=>xs[i+m]?:=rfl;rw[e2] at this;rw[this]
theorem aa9 {t sl:Addr}{items:va}{vl vu:Value}{lo hi:Option Int}{Q:oP}(ht:IsTup s.heap t items)(hs:s.heap.IsSliceOf sl vl vu .none)(pl:IsPart vl lo)(pu:IsPart vu hi)
 (hw:¬(d9 items.size 0 lo=0/\d9 items.size items.size hi=items.size))
 (h:Q (.ref s.heap.objs.size) {s with heap:=s.heap.push {cls:=.type "tuple",data:=.seq ((items.toList.drop (d9 items.size 0 lo)).take (d9 items.size items.size hi-d9 items.size 0 lo)).toArray} })
 (hsz:items.size<=sizeLine):wpAny (model prog w) A (getItem (.ref t) (.ref sl)) Q E s:=by
 have HU:sizeOk (.seq ((items.toList.drop (d9 items.size 0 lo)).take (d9 items.size items.size hi-d9 items.size 0 lo)).toArray):=by
  show((items.toList.drop (d9 items.size 0 lo)).take (d9 items.size items.size hi-d9 items.size 0 lo)).toArray.size<=sizeLine;rw[List.size_toArray,List.length_take,List.length_drop,Array.length_toList];omega
 have hj:d9 items.size items.size hi<=items.size:=rEq _ _ (Nat.le_refl _) hi;obtain⟨os,K8,Ms,MU⟩:=id hs;have R8:s.TypeIs (.ref sl) "slice":=⟨os,K8,Ms⟩;unfold getItem
 try with_reducible refine wpAny_holding ?_
 first|refine wpAny_bind (wpAny_pure ?_)|skip
 refine wpAny_bind (wpAny_sequenceKey ht.typeIs (by decide) ?_)
 refine wpAny_bind (wpAny_callSpecial?_slot (name:=Str.ofString "__getitem__") ht.typeIs PyProof.Rows.slot_tuple_getitem
  (wpAny_call_entry PyProof.Rows.slot_tuple_getitem ht.typeIs entry_tuple_getitem ?_ (args_tuple_getitem _ _)))
 show wpAny _ _ (Builtin.Tuple.tupleItemsOf (.ref t)>>=_) _ _ s;refine wpAny_bind (tupleItemsOf_ ht ?_);refine wpAny_bind (wpAny_typeOf R8 ?_);rw[if_pos (by decide)];refine wpAny_bind (eQ hs pl pu ?_)
 have Jx:¬((((d9 items.size 0 lo:Nat):Int)==0&&(1:Int)==1&&(d9 items.size items.size hi-d9 items.size 0 lo)==items.size)=true):=by
  intro q;rw[Bool.and_eq_true,Bool.and_eq_true] at q;have q1:((d9 items.size 0 lo:Nat):Int)=0:=eq_of_beq q.1.1;have q2:d9 items.size items.size hi-d9 items.size 0 lo=items.size:=eq_of_beq q.2;exact hw ⟨by omega,by omega⟩
 show wpAny _ _ (if(((d9 items.size 0 lo:Nat):Int)==0&&(1:Int)==1&&(d9 items.size items.size hi-d9 items.size 0 lo)==items.size)=true then _ else _) _ _ s;rw[if_neg Jx,acj]
 first
  |exact wpAny_bind (m:=Builtin.Tuple.tupleExact _) (wpAny_newObj_type (wpAny_pure ⟨_,rfl,wpAny_pure h⟩) HU)
  |exact wpAny_bind (m:=Builtin.Tuple.tupleExact _) (wpAny_newObj_type (wpAny_bind (wpAny_pure (wpAny_pure ⟨_,rfl,wpAny_pure h⟩))) HU)
  |exact wpAny_bind (wpAny_bind (m:=Builtin.Tuple.tupleExact _) (wpAny_newObj_type (wpAny_pure (wpAny_pure ⟨_,rfl,wpAny_pure h⟩)) HU))
  |exact wpAny_bind (wpAny_bind (m:=Builtin.Tuple.tupleExact _) (wpAny_newObj_type (wpAny_pure ⟨_,rfl,wpAny_pure h⟩) HU))
end
end HT
namespace L2
open PySem PySem.Spec PyProof.Rows
noncomputable abbrev TO:=St->Hp->(Option Int->Hp->Prop)->Prop
noncomputable def PO (X:Cx)(e:Option Expr)(t:TO):Prop :=
 ∀(pins:List (Addr×Obj))(s:Fp)(σ:St)(H:Hp)(Q:Option Int->Hp->Prop),Inv X pins σ H s->t σ H Q →
  wpAny (model X.prog X.w) X.A (evalPart e X.env) (λu s'=>∃o H',Inv X pins σ H' s'/\IsPart u o/\Q o H') X.xe s
noncomputable def abR:TO:=λ_ H Q=>Q none H
noncomputable def abb (t:TE):TO:=λσ H Q=>t σ H λx H1=>∃i,x=.int i/\Q (some i) H1
theorem kX {ns:List Int}:∀{us:xF},aR (ns.map V.int) us->IntsAre us ns:=by
 induction ns with
 |nil=>intro us r;rw[List.map_nil] at r;cases r;exact .nil
 |cons n ns ih =>
  intro us r;rw[List.map_cons] at r
  cases r with
  |cons r1 r2 =>
   obtain⟨t,e⟩:=r1;subst e;exact .cons n t (ih r2)
section
variable {X:Cx}{e:Expr}{te:TE}{lo hi:Option Expr}{tl th:TO}{pos p2:Pos}
theorem abc:PO X none abR:=by
 intro pins s σ H Q I h;rw[evalPart_none];exact wpAny_pure ⟨none,H,I,.none,h⟩
theorem abp (h:PE X e te):PO X (some e) (abb te):=by
 intro pins s σ H Q I hw;rw[evalPart_some];refine bA (h pins s σ H _ I hw) λu s1 z'=>?_;obtain⟨x,H1,I1,r1,q1⟩:=z';obtain⟨i,rfl,q⟩:=q1;obtain⟨t,rfl⟩:=r1;exact⟨some i,H1,I1,.int i t,q⟩
noncomputable def Ex (X:Cx)(r:V->Option Int->Option Int->Hp->VK->Prop):Prop :=
 ∀(pins:List (Addr×Obj))(s:Fp)(σ:St)(H:Hp)(x:V)(v vl vu:Value)(lo hi:Option Int)(sl:Addr)(Q:VK),Inv X pins σ H s->aD x v->s.heap.IsSliceOf sl vl vu .none->IsPart vl lo->IsPart vu hi->r x lo hi H Q →
  ∃T id,typeLookup (.type T) "__getitem__"=pure (some (.builtin id))/\s.TypeIs v T/\wpAny (model X.prog X.w) X.A (getItem v (.ref sl)) (EP X pins σ Q) X.xe s
noncomputable def aaY (r:V->Option Int->Option Int->Hp->VK->Prop)(te:TE)(tl th:TO):TE:=λσ H Q=>te σ H λx H1=>tl σ H1 λl H2=>th σ H2 λu H3=>r x l u H3 Q
theorem abL {r:V->Option Int->Option Int->Hp->VK->Prop}(hr:Ex X r)(he:PE X e te)(hl:PO X lo tl)(hu:PO X hi th):PE X (.Subscript e (.Slice lo hi none p2) pos) (aaY r te tl th):=by
 intro pins s σ H Q I h;refine Subscript_ (bA (he pins s σ H _ I h) λv s1 z'=>?_);obtain⟨x,H1,I1,r1,q1⟩:=z';refine wpAny_Slice (bA (hl pins s1 σ H1 _ I1 q1) λvl s2 ⟨l,H2,I2,pl,q2⟩=>bA (hu pins s2 σ H2 _ I2 q2) λvu s3 z'=>?_);obtain⟨u,H3,I3,pu,q3⟩:=z';rw[evalPart_none];refine wpAny_pure ?_;have I4:Inv X pins σ H3 {s3 with heap:=s3.heap.push {cls:=.type "slice",data:=.fields #[vl,vu,.none]} }:=I3.kept (t':=s3.toks) λb ob q=>Heap.get?_push_of_some _ q;obtain⟨T,id,hT,ht,hg⟩:=hr pins {s3 with heap:=s3.heap.push {cls:=.type "slice",data:=.fields #[vl,vu,.none]} } σ H3 x v vl vu l u s3.heap.objs.size Q I4 r1 (Heap.IsSliceOf.new ..) pl pu q3;show wpAny (model X.prog X.w) X.A (subscriptTail e (.Slice lo hi none p2) v (.ref s3.heap.objs.size)) (EP X pins σ Q) X.xe {s3 with heap:=s3.heap.push {cls:=.type "slice",data:=.fields #[vl,vu,.none]} };exact tail_any (ops:=[.ref s3.heap.objs.size,v]) ht hT hg (by with_unfolding_all rfl)
noncomputable def nA (xs:List V)(lo hi:Option Int):List V:=(xs.drop (HT.d9 xs.length 0 lo)).take (HT.d9 xs.length xs.length hi-HT.d9 xs.length 0 lo)
theorem acm (xs:List V)(lo hi:Option Int):(nA xs lo hi).length<=xs.length:=by
 unfold nA;rw[List.length_take,List.length_drop];omega
noncomputable def acn (K:PySem.W.Frag):V->Option Int->Option Int->Hp->VK->Prop:=λx lo hi H Q=>∃a xs,x=.ref a/\bx K H a xs /\
 ¬(HT.d9 xs.length 0 lo=0/\HT.d9 xs.length xs.length hi=xs.length)/\∀p,H p=none->Q (.ref p) (upd H p (.tup (nA xs lo hi)))
theorem aco:Ex X (acn X.K):=by
 intro pins s σ H x v vl vu lo hi sl Q I rx hs pl pu h;obtain⟨a,xs,rfl,hx,hw,q⟩:=h
 cases rx
 obtain⟨its,r,ht,hz⟩:=I.tuple hx
 have hlen:its.toArray.size=xs.length:=by rw[List.size_toArray];exact r.length.symm
 refine⟨"tuple",_,PyProof.Rows.slot_tuple_getitem.lookup,ht.typeIs,?_⟩;refine HT.aa9 ht hs pl pu (by rw[hlen];exact hw) ?_ (by rw[hlen];exact hz);rw[hlen];refine⟨.ref s.heap.objs.size,_,I.laid (t':=s.toks) (o:=.tup (nA xs lo hi)) (λb ob q=>Heap.get?_push_of_some _ q) (Nat.le_refl _) ?_,rfl,q _ (I.hok.fresh (Nat.le_refl _))⟩;exact⟨Nat.le_trans (acm xs lo hi) hz,_,(r.drop (HT.d9 xs.length 0 lo)).take (HT.d9 xs.length xs.length hi-HT.d9 xs.length 0 lo),IsTup.new _ _⟩
end
noncomputable def xy (n:Nat)(i:Int):Option Nat:=if 0<=i then(if i<n then some i.toNat else none) else if -(n:Int)<=i then some (i+n).toNat else none
noncomputable def mR {α:Type}(xs:List α)(i:Int):Option α:=(xy xs.length i).bind λj=>xs[j]?
variable {n:Nat}
theorem rW {i:Int}{j:Nat}(h:xy n i=some j):seqIndex? i n=some j/\j<n/\-(n:Int)<=i/\i<n:=by
 unfold xy at h
 by_cases h0:0<=i
 ·rw[if_pos h0] at h
  by_cases h1:i<n
  ·rw[if_pos h1] at h;have e:i.toNat=j:=Option.some.inj h;exact⟨by rw[seqIndex_of h0 h1,e],by omega,by omega,h1⟩
  ·rw[if_neg h1] at h;cases h
 ·rw[if_neg h0] at h
  by_cases h1:-(n:Int)<=i
  ·rw[if_pos h1] at h;have e:(i+n).toNat=j:=Option.some.inj h;exact⟨by rw[seqIndex_neg (by omega) h1,e],by omega,h1,by omega⟩
  ·rw[if_neg h1] at h;cases h
theorem sh {α:Type}{xs:List α}{i:Int}{v:α}(h:mR xs i=some v):∃j,seqIndex? i xs.length=some j/\xs[j]?=some v/\j<xs.length/\-(xs.length:Int)<=i/\i<xs.length:=by
 unfold mR at h
 cases e:xy xs.length i with
 |none=>rw[e] at h;cases h
 |some j =>
  rw[e] at h;obtain⟨h1,h2,h3,h4⟩:=rW e;exact⟨j,h1,h,h2,h3,h4⟩
theorem se {α:Type}{xs:List α}{j:Nat}{v:α}(h:xs[j]?=some v):mR xs (j:Int)=some v:=by
 have hj:j<xs.length:=(List.getElem?_eq_some_iff.mp h).1
 have e:xy xs.length (j:Int)=some j:=by
  unfold xy;rw[if_pos (by omega),if_pos (by omega)];simp
 unfold mR;rw[e];exact h
noncomputable def acp (b:Expr):Prop:=∀o i,subscripted b false o i=operate [o,i] (getItem o i)
noncomputable def Ay (X:Cx)(r:R2):Prop :=
 ∀(value slice:Expr)(pins:List (Addr×Obj))(s:Fp)(σ:St)(H:Hp)(x y:V)(v u:Value)(Q:VK),Inv X pins σ H s->aD x v->aD y u->r x y H Q →
  subscripted slice false v u=operate [v,u] (getItem v u)->wpAny (model X.prog X.w) X.A (subscriptTail value slice v u) (EP X pins σ Q) X.xe s
noncomputable def Df (X:Cx)(id:String)(r:V->List V->Hp->VK->Prop):Prop :=
 ∀(pins:List (Addr×Obj))(s:Fp)(σ:St)(H:Hp)(x:V)(xs:List V)(v:Value)(us:xF)(Q:VK),Inv X pins σ H s->aD x v->aR xs us->r x xs H Q →
  wpAny (model X.prog X.w) X.A (call (.builtin id) (v::us)) (EP X pins σ Q) X.xe s
variable {pins:List (Addr×Obj)}{σ:St}{H:Hp}{s:Fp}{x:V}{v:Value}
section
variable {X:Cx}{a b:Expr}{ta tb:TE}{pos:Pos}
theorem bo {r:R2}(hr:Ay X r)(ha:PE X a ta)(hb:PE X b tb)(hs:acp b):PE X (.Subscript a b pos) (jB r ta tb):=by
 intro pins s σ H Q I h;exact Subscript_ (AW ha hb I h λv u s2 x y H2 I2 rx ry q=>hr a b pins s2 σ H2 x y v u Q I2 rx ry q (hs _ _))
noncomputable def yI (K:PySem.W.Frag):R2:=λx y H Q=>∃p xs i v,x=.ref p/\y=.int i/\ba K H p xs/\mR xs i=some v/\Q v H
noncomputable def xE (K:PySem.W.Frag):R2:=λx y H Q=>∃p xs i v,x=.ref p/\y=.int i/\bx K H p xs/\mR xs i=some v/\Q v H
theorem bV:Ay X (yI X.K):=by
 intro value slice pins s σ H x y v u Q I rx ry h hs;obtain⟨p,xs,i,z,rfl,rfl,hq,he,q⟩:=h
 cases rx
 obtain⟨t,rfl⟩:=ry;obtain⟨its,r,pl,hz⟩:=I.list hq;obtain⟨j,h1,h2,h3,h4,h5⟩:=sh he;obtain⟨w,ew,GD⟩:=r.get h2;have hl:=r.length;have hn:=kr;have fin:EP X pins σ Q w s:=⟨z,H,I,GD,q⟩
 by_cases h0:0<=i
 ·have hj:i.toNat=j:=by
   rw[seqIndex_of h0 h5] at h1;exact Option.some.inj h1
  exact item_listR pl.isList h0 (by omega) (by rw[hj];simpa using ew) fin hs
 ·have hj:(i+(its.toArray.size:Int)).toNat=j:=by
   rw[seqIndex_neg (by omega) h4] at h1;rw[List.size_toArray,<-hl];exact Option.some.inj h1
  exact subscriptTail_builtinR (x:=w) pl.isList.typeIs slot_list_getitem.lookup
   (wpAny_getItem_list_neg (Q:=λr s'=>r=w/\EP X pins σ Q r s') pl.isList (by omega) (by rw[List.size_toArray] <;> omega) (by omega) (by rw[hj];simpa using ew) ⟨rfl,fin⟩) hs
theorem bK:Ay X (xE X.K):=by
 intro value slice pins s σ H x y v u Q I rx ry h hs;obtain⟨p,xs,i,z,rfl,rfl,hq,he,q⟩:=h
 cases rx
 obtain⟨t,rfl⟩:=ry;obtain⟨its,r,pl,hz⟩:=I.tuple hq;obtain⟨j,h1,h2,h3,h4,h5⟩:=sh he;obtain⟨w,ew,GD⟩:=r.get h2;have hl:=r.length;have hn:=kr;have fin:EP X pins σ Q w s:=⟨z,H,I,GD,q⟩
 exact subscriptTail_builtinR (x:=w) pl.typeIs slot_tuple_getitem.lookup
  (getItem_tuple (j:=j) (Q:=λr s'=>r=w/\EP X pins σ Q r s') pl (by omega) (by omega) (by rw[List.size_toArray,<-hl];exact h1) (by simpa using ew) ⟨rfl,fin⟩) hs
theorem acq (its:xF)(n j:Nat)(u:Value):Obj.mapSeq (·.setIfInBounds j u) {cls:=.type "list",data:=.seq its.toArray n}={cls:=.type "list",data:=.seq (its.set j u).toArray n}:=by
 simp[Obj.mapSeq]
theorem Inv.lst {p:Addr}{xs:List V}(I:Inv X pins σ H s)(h:H p=some (.lst xs)):
 ∃(its:xF)(n:Nat),aR xs its/\s.heap.get? p=some {cls:=.type "list",data:=.seq its.toArray n}/\xs.length<=sizeLine:=by
 obtain⟨z,its,n,r,e⟩:=I.hok p _ h;exact⟨its,n,r,e,z⟩
theorem Inv.ab7 {p:Addr}{xs ys:List V}{its its':xF}{n':Nat}{f:Obj->Obj}(I:Inv X pins σ H s)(h:H p=some (.lst xs))
 (ho:s.heap.get? p=some {cls:=.type "list",data:=.seq its.toArray n})(hf:f {cls:=.type "list",data:=.seq its.toArray n}={cls:=.type "list",data:=.seq its'.toArray n'})(r:aR ys its')(hz:ys.length<=sizeLine)(t:Nat):
 Inv X pins σ (upd H p (.lst ys)) {s with heap:=s.heap.update p f,toks:=t}:=by
 have e:(s.heap.update p f).get? p=some {cls:=.type "list",data:=.seq its'.toArray n'}:=by
  rw[Heap.get?_update_self f ho (by rw[hf] <;> rfl),hf]
 refine I.write (x:=p) (e:=p) (by rw[h];trivial) (.inl rfl) (λb u hb q=>(Heap.get?_update_other _ _ (Ne.symm hb)).trans q) ⟨_,e⟩ ?_;exact⟨hz,its',n',r,e⟩
noncomputable def ach:V->V->V->Hp->(Hp->Prop)->Prop:=λo i v H Q=>∃p xs k j,o=.ref p/\i=.int k/\H p=some (.lst xs)/\xy xs.length k=some j/\Q (upd H p (.lst (xs.set j v)))
theorem jI:BU X ach:=by
 intro pins s σ H o i v ov iv u Q I ro ri rv h;obtain⟨p,xs,k,j,rfl,rfl,hp,hj,q⟩:=h
 cases ro
 obtain⟨t,rfl⟩:=ri;obtain⟨its,n,r,ho,hz⟩:=I.lst hp;obtain⟨h1,h2,h3,h4⟩:=rW hj;have hl:=r.length;have hn:=kr
 have I':Inv X pins σ (upd H p (.lst (xs.set j v))) {s with heap:=s.heap.update p (Obj.mapSeq (·.setIfInBounds j u))}:=
  I.ab7 hp ho (acq its n j u) (r.set rv j) (by rw[List.length_set];exact hz) s.toks
 by_cases h0:0<=k
 ·have hk:k.toNat=j:=by
   rw[seqIndex_of h0 h4] at h1;exact Option.some.inj h1
  exact PySem.W.ki_setAt ho h0 (by omega) (by rw[List.size_toArray,<-hl];exact h4) (by rw[hk];exact⟨_,I',q⟩)
 ·have hk:(k+(its.toArray.size:Int)).toNat=j:=by
   rw[seqIndex_neg (by omega) h3] at h1;rw[List.size_toArray,<-hl];exact Option.some.inj h1
  exact PySem.W.ki_setBack ho (by omega) (by rw[List.size_toArray,<-hl];exact h3) (by omega) (by rw[hk];exact⟨_,I',q⟩)
noncomputable def e9:V->Bool
 | .non=>true
 | .bl _=>true
 | .int _=>true
 | .str _=>true
 |_=>false
noncomputable def uT:V->V->Bool
 | .non,.non=>true
 | .bl a,.bl b=>a==b
 | .bl a,.int b=>(if a then 1 else 0)==b
 | .int a,.bl b=>a==(if b then 1 else 0)
 | .int a,.int b=>a==b
 | .str a,.str b=>a==b
 |_,_=>false
theorem pK {A:Around}{y:V}{u:Value}(ry:aD y u)(rx:aD x v)(fy:e9 y=true)(fx:e9 x=true):SeqAt.EqAt A s u v (uT y x):=by
 cases y with
 |non =>
  cases ry
  cases x with
  |non=>cases rx;exact SeqAt.EqAt.same _
  |bl b=>cases rx;exact SeqAt.EqAt.none_bool b
  |int b=>obtain⟨t,rfl⟩:=rx;exact SeqAt.EqAt.none_int b t
  |str b=>obtain⟨t,rfl⟩:=rx;exact SeqAt.EqAt.none_str b t
  |_=>exact absurd (show false=true from fx) Bool.false_ne_true
 |bl a =>
  cases ry
  cases x with
  |non=>cases rx;exact SeqAt.EqAt.bool_none a
  |bl b=>cases rx;exact SeqAt.EqAt.bool_bool a b
  |int b=>obtain⟨t,rfl⟩:=rx;exact SeqAt.EqAt.bool_int a b t
  |str b=>obtain⟨t,rfl⟩:=rx;exact SeqAt.EqAt.bool_str a b t
  |_=>exact absurd (show false=true from fx) Bool.false_ne_true
 |int a =>
  obtain⟨t',rfl⟩:=ry
  cases x with
  |non=>cases rx;exact SeqAt.EqAt.int_none a t'
  |bl b=>cases rx;exact SeqAt.EqAt.int_bool a t' b
  |int b=>obtain⟨t,rfl⟩:=rx;exact SeqAt.EqAt.int_int a t' b t
  |str b=>obtain⟨t,rfl⟩:=rx;exact SeqAt.EqAt.int_str a t' b t
  |_=>exact absurd (show false=true from fx) Bool.false_ne_true
 |str a =>
  obtain⟨t',rfl⟩:=ry
  cases x with
  |non=>cases rx;exact SeqAt.EqAt.str_none a t'
  |bl b=>cases rx;exact SeqAt.EqAt.str_bool a t' b
  |int b=>obtain⟨t,rfl⟩:=rx;exact SeqAt.EqAt.str_int a t' b t
  |str b=>obtain⟨t,rfl⟩:=rx;exact SeqAt.EqAt.str_str a t' b t
  |_=>exact absurd (show false=true from fx) Bool.false_ne_true
 |_=>exact absurd (show false=true from fy) Bool.false_ne_true
noncomputable def uR (x:V)(u:Value):Bool:=match u with
 | .none=>uT .non x
 | .bool b=>uT (.bl b) x
 | .int i _=>uT (.int i) x
 | .str z _=>uT (.str z) x
 |_=>false
theorem hJ {y:V}{u:Value}(r:aD y u)(f:e9 y=true):uR x u=uT y x:=by
 cases y with
 |non=>cases r;rfl
 |bl b=>cases r;rfl
 |int i=>obtain⟨t,rfl⟩:=r;rfl
 |str z=>obtain⟨t,rfl⟩:=r;rfl
 |_=>exact absurd (show false=true from f) Bool.false_ne_true
theorem mK :∀{xs:List V}{us:xF},aR xs us->xs.all e9=true->us.any (uR x)=xs.any λy=>uT y x
 |_,_,.nil,_=>rfl
 |y::xs,u::us,.cons r t,f=>by
  rw[List.all_cons,Bool.and_eq_true] at f;rw[List.any_cons,List.any_cons,hJ r f.1,mK t f.2]
theorem kK {A:Around}(rx:aD x v)(fx:e9 x=true):∀{xs:List V}{us:xF},aR xs us->xs.all e9=true->∀u∈us,SeqAt.EqAt A s u v (uR x u)
 |_,_,.nil,_=>λu hu=>by cases hu
 |y::xs,u::us,.cons r t,f=>λu' hu=>by
  rw[List.all_cons,Bool.and_eq_true] at f
  rcases List.mem_cons.mp hu with rfl|hu
  ·rw[hJ r f.1];exact pK r rx f.1 fx
  ·exact kK rx fx t f.2 u' hu
noncomputable def Bv (x:V)(xs:List V):Bool:=xs.any λy=>uT y x
noncomputable def acr (K:PySem.W.Frag)(neg:Bool):R2:=λx y H Q=>∃p xs,y=.ref p/\(ba K H p xs\/bx K H p xs)/\e9 x=true/\xs.all e9=true/\Q (.bl (if neg then !Bv x xs else Bv x xs)) H
theorem acs:gF X (compareOp .NotIn) (acr X.K true):=by
 intro pins s σ H x y v u Q I rx ry h;obtain⟨p,xs,rfl,hq,fx,fs,q⟩:=h
 cases ry
 rcases hq with hq|hq
 ·obtain⟨its,r,pl,hz⟩:=I.list hq;refine SeqAt.notIn_listAt (uR x) pl.isList (λw hw=>kK rx fx r fs w (by simpa using hw)) ⟨.bl _,H,I,rfl,?_⟩;rw[show its.toArray.any (uR x)=its.any (uR x) by simp,mK r fs];exact q
 ·obtain⟨its,r,pl,hz⟩:=I.tuple hq;refine SeqAt.notIn_tupleAt (uR x) pl (λw hw=>kK rx fx r fs w (by simpa using hw)) ⟨.bl _,H,I,rfl,?_⟩;rw[show its.toArray.any (uR x)=its.any (uR x) by simp,mK r fs];exact q
theorem bJ:dE X (.builtin "len") (λxs H Q=>∃p ys,xs=[.ref p]/\(ba X.K H p ys\/bx X.K H p ys)/\Q (.int ys.length) H):=by
 intro pins s σ H xs us Q I r h;obtain⟨p,ys,rfl,hq,q⟩:=h;obtain⟨u,rfl,rx⟩:=eO r
 cases rx
 have hn:=kr
 rcases hq with hq|hq
 ·obtain⟨its,r',pl,hz⟩:=I.list hq;have hlen:=r'.length;exact Calls.call_len_list pl.isList (by simp only[List.size_toArray] <;> omega) ⟨.int ys.length,H,I.tok _,⟨s.toks+1,by rw[List.size_toArray,hlen]⟩,q⟩
 ·obtain⟨its,r',pl,hz⟩:=I.tuple hq;have hlen:=r'.length;exact len_tuple pl (by simp only[List.size_toArray] <;> omega) ⟨.int ys.length,H,I.tok _,⟨s.toks+1,by rw[List.size_toArray,hlen]⟩,q⟩
theorem iF:dE X (.type "list") (λxs H Q=>∃p ys,xs=[.ref p]/\(ba X.K H p ys\/bx X.K H p ys)/\∀l,H l=none->Q (.ref l) (upd H l (.lst ys))):=by
 intro pins s σ H xs us Q I r h;obtain⟨p,ys,rfl,hq,q⟩:=h;obtain⟨u,rfl,rx⟩:=eO r
 cases rx
 have fin:∀(its:xF),aR ys its->ys.length<=sizeLine->∀(h':Heap)(c':Nat),(∀b o',s.heap.get? b=some o'->h'.get? b=some o') →
  h'.get? s.heap.objs.size=some {cls:=.type "list",dict:=none,data:=.seq its.toArray c',slots:=#[]}->EP X pins σ Q (.ref s.heap.objs.size) {s with heap:=h'}:=λits r' hz h' c' kp e =>
  ⟨.ref s.heap.objs.size,_,I.laid (t':=s.toks) kp (Nat.le_refl _) (show br X.prog X.w _ h' _ (.lst ys) from⟨hz,its,c',r',e⟩),rfl,q _ (I.hok.fresh (Nat.le_refl _))⟩
 rcases hq with hq|hq
 ·obtain⟨its,r',pl,hz⟩:=I.list hq;have hlen:=r'.length;obtain⟨o,ho,hc,n,hd⟩:=pl.isList;exact call_list_seq p (.inl rfl) ho hc hd (λh' c' kp e=>fin its r' hz h' c' kp e) (by simp only[List.size_toArray] <;> omega)
 ·obtain⟨its,r',pl,hz⟩:=I.tuple hq;have hlen:=r'.length;obtain⟨o,ho,hc,n,hd⟩:=pl;exact call_list_seq p (.inr rfl) ho hc hd (λh' c' kp e=>fin its r' hz h' c' kp e) (by simp only[List.size_toArray] <;> omega)
theorem gK:dE X (.type "tuple") (λxs H Q=>∃p ys,xs=[.ref p]/\((ba X.K H p ys/\∀l,H l=none->Q (.ref l) (upd H l (.tup ys)))\/(bx X.K H p ys/\Q (.ref p) H))):=by
 intro pins s σ H xs us Q I r h;obtain⟨p,ys,rfl,h⟩:=h;obtain⟨u,rfl,rx⟩:=eO r
 cases rx
 rcases h with⟨hq,q⟩|⟨hq,q⟩
 ·obtain⟨its,r',pl,hz⟩:=I.list hq;have hlen:=r'.length;refine call_tuple_list pl.isList (λh' kp=>?_) (by simp only[List.size_toArray] <;> omega);have I1:Inv X pins σ H {s with heap:=h'}:=I.kept (t':=s.toks) kp
  have I2:Inv X pins σ (upd H h'.objs.size (.tup ys)) {s with heap:=h'.push {cls:=.type "tuple",data:=.seq its.toArray} }:=
   I1.laid (t':=s.toks) (λb o e=>Heap.get?_push_of_some _ e) (Nat.le_refl _) (show br X.prog X.w _ _ _ (.tup ys) from⟨hz,its,r',IsTup.new _ _⟩)
  exact⟨.ref h'.objs.size,_,I2,rfl,q _ (I1.hok.fresh (Nat.le_refl _))⟩
 ·obtain⟨its,r',pl,hz⟩:=I.tuple hq;exact call_tuple_same pl ⟨.ref p,H,I,rfl,q⟩
noncomputable def Fj (K:PySem.W.Frag)(T:String)(x:V)(H:Hp):Prop:=match x with
 | .str _=>T="str"
 | .int _=>T="int"
 | .ref p=>(T="list"/\∃xs,ba K H p xs)\/(T="tuple"/\∃o,K.lookup p=some o/\o.cls=.type "tuple"/\o.dict=none) \/
  (T="dict"/\((∃FQ,H p=some (.dK FQ))\/∃FQ,H p=some (.dT FQ)))\/(T="set"/\∃S n,H p=some (.set S n))
 |_=>False
theorem acu {T:String}(I:Inv X pins σ H s)(r:aD x v)(ty:Fj X.K T x H):
 s.TypeIs v T/\∀a,v=.ref a->∃ob,s.heap.get? a=some ob/\ob.dict=none:=by
 cases x with
 |str z =>
  obtain⟨t,rfl⟩:=r
  cases(show T="str" from ty)
  exact⟨typeIs_str s z t,λ_ e=>nomatch e⟩
 |int i =>
  obtain⟨t,rfl⟩:=r
  cases(show T="int" from ty)
  exact⟨typeIs_int s i t,λ_ e=>nomatch e⟩
 |ref p =>
  cases r
  rcases ty with⟨rfl,xs,hq⟩|⟨rfl,o,hk,hc,hd⟩|⟨rfl,hk⟩|⟨rfl,S,n,hk⟩
  ·obtain⟨its,_,pl,_⟩:=I.list hq;refine⟨pl.isList.typeIs,λa e=>?_⟩
   cases e
   obtain⟨o,n,e,c,hd,_⟩:=pl;exact⟨o,e,hd⟩
  ·refine⟨⟨o,I.kIn p o hk,hc⟩,λa e=>?_⟩
   cases e
   exact⟨o,I.kIn _ o hk,hd⟩
  ·have z:∃o,s.heap.get? p=some o/\o.ExactDict:=by
    rcases hk with⟨FQ,hk⟩|⟨FQ,hk⟩
    ·obtain⟨_,_,_,_,o,_,_,e,ex,_⟩:=I.hok p _ hk;exact⟨o,e,ex⟩
    ·obtain⟨_,_,_,_,o,_,_,e,ex,_⟩:=I.hok p _ hk;exact⟨o,e,ex⟩
   obtain⟨o,e,ex⟩:=z;refine⟨⟨o,e,ex.1⟩,λa e2=>?_⟩
   cases e2
   exact⟨o,e,ex.2.1⟩
  ·obtain⟨o,_,_,_,e,ex,_⟩:=I.hok p _ hk;refine⟨⟨o,e,ex.1⟩,λa e2=>?_⟩
   cases e2
   exact⟨o,e,ex.2.1⟩
 |_=>exact False.elim ty
noncomputable def acv (K:PySem.W.Frag)(T:String)(r:V->List V->Hp->VK->Prop)(to:TE)(t:TA):TE:=λσ H Q=>to σ H λx H1=>Fj K T x H1/\t σ H1 λxs H2=>r x xs H2 Q
variable {o e:Expr}{es:wW}{to:TE}{t:TA}{name:Str}{apos Gj:Pos}{T id:String}{r:V->List V->Hp->VK->Prop}
theorem rF (pa:PlainAttrs T)(slot:Slot T name id)(YM:typeOf (.builtin id)=pure (.type "method_descriptor"))(hm:Df X id r)(ho:PE X o to)(ha:PA X (e::es) t)
 (IC:attributeBase o name X.env (eval o X.env)=eval o X.env:=by rfl)
 (R9:((backTo Gj (starEach (e::es) X.env)).all (λx=>!x.1)&&(backToKw Gj (keywordEach [] X.env)).all (λx=>x.1.isSome)
  && decide ((e::es).length+([]:List Keyword).length+(if([]:List Keyword).isEmpty then 0 else 1)<30))=true:=by rfl)
 (ID:(apos.endLine==Gj.line)=true:=by rfl)(hs:starEach (e::es) X.env=(false,eval e X.env):: starEach es X.env:=by rfl)(K9:(backTo Gj (starEach es X.env)).any (·.1)=false:=by rfl):
 PE X (.Call (.Attribute o name apos) (e::es) [] Gj) (acv X.K T r to t):=by
 intro pins s σ H Q I h;refine wpAny_Call_method_late IC R9 ID rfl (bA (ho pins s σ H _ I h) λv s1 z'=>?_);obtain⟨x,H1,I1,r1,ty,q1⟩:=z';obtain⟨h1,h2⟩:=acu I1 r1 ty;refine⟨T,id,pa,slot,YM,h1,h2,?_⟩;have hA:=ha Gj pins s1 σ H1 _ I1 q1;rw[hs] at hA |-;refine Calls.callWith_builtin (by show(false || (backTo Gj (starEach es X.env)).any (·.1))=false;rw[K9] <;> rfl) (Calls.evalArgs_plain ?_);exact bA hA λus s2 ⟨vs,H2,I2,r2,q2⟩=>hm pins s2 σ H2 x vs v us Q I2 r1 r2 q2
/- xs.append(e),list.index on a MV tuple .. are Df facts of 06m -/
end
noncomputable def acw (X:Cx)(id:String)(r:V->List V->Hp->VK->Prop):Prop :=
 ∀(pins:List (Addr×Obj))(s:Fp)(σ:St)(H:Hp)(x:V)(xs:List V)(v:Value)(us:xF)(Q:VK),Inv X pins σ H s->aD x v->aR xs us->r x xs H Q →
  wpAny (model X.prog X.w) X.A (call (.builtin id) (v::us)) (EP X pins σ Q) X.xe s
theorem aR.one:∀{x:V}{us:xF},aR [x] us->∃u,us=[u]/\aD x u
 |_,_,.cons r .nil=>⟨_,rfl,r⟩
section
variable {X:Cx}{pins:List (Addr×Obj)}{σ:St}{H:Hp}{s:Fp}{l b:Addr}{xs ys zs:List V}
theorem Inv.acH {its its':xF}{f:Array Value->Array Value}{t':Nat}(I:Inv X pins σ H s)(hH:H l=some (.lst xs))
 (e:s.heap.get? l=some {cls:=.type "list",data:=.seq its.toArray n})(hf:f its.toArray=its'.toArray)(hv:aR ys its')(hz:ys.length<=sizeLine):
 Inv X pins σ (upd H l (.lst ys)) {s with heap:=s.heap.update l (Obj.mapSeq f),toks:=t'}:=by
 have q:=PySem.IsL.update e f;rw[hf] at q;refine I.write (x:=l) (e:=l) (by rw[hH];exact trivial) (.inl rfl) (λb' u hb hu=>(Heap.get?_update_other s.heap (Obj.mapSeq f) (Ne.symm hb)).trans hu) ⟨_,q⟩ ?_;exact⟨hz,its',_,hv,q⟩
theorem Inv.acI (I:Inv X pins σ H s)(hH:H l=some (.lst xs)):xs.length<=sizeLine/\∃(its:xF)(n:Nat),aR xs its/\xs.length=its.length/\s.heap.get? l=some {cls:=.type "list",data:=.seq its.toArray n}:=by
 obtain⟨z,its,n,r,e⟩:=I.hok l _ hH;exact⟨z,its,n,r,r.length,e⟩
end
section
variable {X:Cx}
noncomputable def abS:V->List V->Hp->VK->Prop:=λx vs H Q=>∃l xs y,x=.ref l/\vs=[y]/\H l=some (.lst xs)/\xs.length<sizeLine/\Q .non (upd H l (.lst (xs++[y])))
theorem lR:acw X "list.append" abS:=by
 intro pins s σ H x vs v us Q I rx rv h;obtain⟨l,xs,y,rfl,rfl,hH,hz,q⟩:=h
 cases rx
 obtain⟨u,rfl,ru⟩:=rv.one;obtain⟨z,its,n,r,hl,e⟩:=I.acI hH;refine call_meets F.slot_list_append ⟨_,e,rfl⟩ F.entry_list_append (F.args_list_append_2 _ _) (PySem.list_append l its.toArray n u (by rw[List.size_toArray];omega)) ⟨e,?_⟩;refine⟨.non,_,I.acH (its':=its++[u]) hH e (by simp) (r.append (.cons ru .nil)) ?_,rfl,q⟩;rw[List.length_append,List.length_singleton];omega
end
end L2
namespace WC
open PySem PySem.W PySem.Calls PyProof.Rows
theorem acx {P:Params}{h:Heap}:∀(ns:List Int)(vs:xF),WellAll P h vs (ns.map WData.int)->IntsAre vs ns:=by
 intro ns
 induction ns with
 |nil =>
  intro vs w;rw[List.map_nil] at w
  cases w
  exact .nil
 |cons n ns ih =>
  intro vs w;rw[List.map_cons] at w
  cases w with
  |cons a b =>
   cases a
   exact .cons _ _ (ih _ b)
theorem acy {l:OpenLaw}{n:Nat}(hn:l.most=some n){P:Params}{h:Heap}{args:List WData}{vals:xF}
 (Jy:l.row.toRowW.claim.pre args=true)(Sa:WellAll P h vals args):
 ∃a vs ns,vals=[Value.ref a]/\args=[WData.list (ns.map WData.int)]/\h.get? a=some {cls:=.type "list",data:=.seq vs.toArray}/\IntsAre vs ns/\ns.length<=n:=by
 have YN:WShape.hasAll [] args [.list .int]=true:=(pre_splitW Jy).1;have hc:l.pre.holds [] {args:=args}=true:=(pre_splitW Jy).2;obtain⟨d,r,rfl,h1,h2⟩:=hasAllW_cons YN;obtain rfl:=hasAllW_nil h2;obtain⟨xs,rfl,h3⟩:=hasW_list h1;obtain⟨ns,rfl⟩:=items_int h3
 have hlen:ns.length<=n:=by
  unfold OpenLaw.pre at hc
  have h4:(WTm.not (.lt (.lit (.int (n:Int))) (.len (.arg 0)))).holds [] {args:=[.list (ns.map .int)]}=true:=by
   have h4:=(holds_andW hc).1;rw[hn] at h4;exact h4
  have h5:=condW_of h4 (w_not (w_lt w_lit (w_len_list (w_arg rfl))));rw[List.length_map] at h5;refine Nat.le_of_not_lt λq=>?_
  have q':(n:Int)<((ns.length:Nat):Int):=by omega
  first
   |(rw[decide_eq_true q'] at h5;exact absurd h5 (by decide))
   |(simp at h5;omega)
 cases Sa with
 |cons w1 w2 =>
  cases w2
  cases w1 with
  |list ho Ig=>exact⟨_,_,ns,rfl,rfl,ho,acx ns _ Ig,hlen⟩
theorem abq (l:OpenLaw)(args:List WData):l.row.toRowW.claim.post args (.bool true) args=true :=
 postW_of (r:=l.row.toRowW) (X:=(true==true))
  (show WShape.has [] (.bool true) .bool=true by first|rfl|decide|simp[WShape.has,WShape.arms,WShape.armsAll])
  (show(WTm.eq .res (.lit (.bool true))).value [] {args:=args,res:=some (.bool true),after:=args}=some (.bool (true==true)) from w_eq_bool (w_res rfl) w_lit) rfl
theorem abr {l:OpenLaw}{n:Nat}{q:zO}{loose:nO}{XP:(Str->Option Value)->Heap->Prop}{YP:World->Heap->Prop}{d:DefRec}
 (hn:l.most=some n)(MW:d.params.defaults=[])
 (call:∀(w:World)(s₀ s₁:Fp)(mg mb:yN)(fa:Addr)(o:Obj)(pm cd doc:Value)(a:Addr)(vs:xF)(ns:List Int),
  Ground q loose [] XP w s₀ mg mb s₁.heap->YP w s₁.heap →
  s₁.heap.get? fa=some o->o.data=.func (docDef d.name d.params d.body d.scope pm cd doc)->s₁.heap.CodeRec cd d.name->mg d.name=some (.ref fa) →
  s₁.heap.get? a=some {cls:=.type "list",data:=.seq vs.toArray}->IntsAre vs ns->ns.length<=n->s₁.gens = #[] →
  codeAny (model l.prog w) callerA (.call (.ref fa) ⟨[.ref a],[]⟩) (λr s'=>r=.ok (.ret (.bool true))/\OldK s₁.heap s'.heap/\s'.os=s₁.os/\AllBare s'.gens) s₁):
 WalkO q loose XP YP l.row.toRowW d [] (λf vs=>PySem.call f vs):=by
 intro w s₀ s₁ mg mb G Y fa o pm cd doc dV kV ho hd GW hD Sb hg args vals as Jy YO hrd Sa hlo;obtain rfl:dV=.none:=Dflts.none hD MW;obtain rfl:kV=.none:=Dflts.noKw hD;obtain⟨a,vs,ns,rfl,rfl,La,hints,hlen⟩:=acy hn Jy Sa;refine enter_call (codeAny_mono (call w s₀ s₁ mg mb fa o pm cd doc a vs ns G Y ho (fd_plain hd) GW Sb La hints hlen hg) λr s' hq=>?_);obtain⟨rfl,h2,h3,h4⟩:=hq;exact⟨.inl ⟨.bool true,.bool true,[],rfl,λ_=>rfl,.bool true,abq l _,λ_=>⟨List.Pairwise.nil,λ_ hm=>(nomatch hm)⟩⟩,h2,h3,h4⟩
end WC
namespace L2
open PySem PySem.Spec PyProof.Rows
theorem l7:∀{vs:xF}{ns:List Int},IntsAre vs ns->aR (ns.map V.int) vs
 |_,_,.nil=>.nil
 |_,_,.cons n t h=>.cons ⟨t,rfl⟩ (l7 h)
structure xR (K:PySem.W.Frag)(x qual:Str)(st:Stmt)(f:Addr)(fd:vH):Prop where
 ex:∃(oc:Value)(od:zR)(kV doc pm:Value)(an:zR)(FV ct:Value)(Gp:Bp),
  fd=PySem.W.fnOf x qual (b9 st) (bF st) (ak st) .none kV doc pm an FV ct/\K.lookup f=some ⟨oc,od,.func fd,Gp⟩/\PySem.W.codeIn K FV qual=true
 kp:PySem.W.keepIn K (.ref f)=true
variable {x qual:Str}{st:Stmt}{f:Addr}{fd:vH}{ps:nO}
section
variable {P:zO}{w:World}{K:PySem.W.Frag}{mg:yN}{base:Heap}
theorem xR.binds (F:xR K x qual st f fd)
 (h:∀(kV doc pm:Value)(an:zR)(FV ct:Value)(us:xF),us.length=ps.length->bindArgs (PySem.W.fnOf x qual (b9 st) (bF st) (ak st) .none kV doc pm an FV ct) ⟨us,[]⟩=pure (ps.zip us)):az K fd ps []:=by
 obtain⟨oc,od,kV,doc,pm,an,FV,ct,Gp,rfl,lk,GW⟩:=F.ex;exact .all (h kV doc pm an FV ct)
theorem acA {oc:Value}{od an:zR}{Gp:Bp}{kV doc pm FV ct:Value}(l:K.lookup f=some ⟨oc,od,.func (PySem.W.fnOf x qual (b9 st) (bF st) (ak st) .none kV doc pm an FV ct),Gp⟩)
 (c:PySem.W.codeIn K FV qual=true)(k:PySem.W.keepIn K (.ref f)=true):xR K x qual st f (PySem.W.fnOf x qual (b9 st) (bF st) (ak st) .none kV doc pm an FV ct):=⟨⟨oc,od,kV,doc,pm,an,FV,ct,Gp,rfl,l,c⟩,k⟩
end
theorem uB {n:Nat}(h:n<=1000):n<sizeLine:=Nat.lt_of_le_of_lt h (by decide)
variable {pos:Pos}
section
variable {X:Cx}
theorem pv (i:Nat)(hN:X.N[i]?=some x:=by rfl)(hv:CL X.env.scope x:=by first|exact Or.inl rfl|exact Or.inr (Or.inl rfl)|exact Or.inr (Or.inr rfl))(hd:(x==("__debug__":Str))=false:=by decide)
 (GW:(x==("__classdict__":Str))=false:=by decide):PE X (.Name x pos) (cC i):=aaJ hN hv hd GW
end
theorem bD {A B:Prop}(h:B):if false=true then A else B:=by
 rw[if_neg Bool.false_ne_true];exact h
theorem aW {A B:Prop}(h:A):if true=true then A else B:=by
 rw[if_pos rfl];exact h
theorem cp {c A B:Prop} [Decidable c](h1:c->A)(h2:¬c->B):if c then A else B:=by
 by_cases h:c
 ·rw[if_pos h];exact h1 h
 ·rw[if_neg h];exact h2 h
noncomputable def ax (H H':Hp):Prop:=∀b o,H b=some o->H' b=some o
theorem ax.refl (H:Hp):ax H H:=λ_ _ h=>h
variable {H:Hp}
theorem ax.trans {H1 H2:Hp}(a:ax H H1)(b:ax H1 H2):ax H H2:=λc o h=>b c o (a c o h)
variable {P:zO}{w:World}{h:Heap}{a:Addr}
theorem c7 {o:HO}(x:eK P w H h)(hn:H a=none)(new:br P w (upd H a o) h a o):eK P w (upd H a o) h:=λb u e=>by
 by_cases hb:b=a
 ·subst hb;rw[ae] at e;cases e;exact new
 ·rw[ai hb] at e
  exact(x b u e).aaO (λc v _ q=>q) (λc q=>by rw[ai (ar q hn)];exact q) λc xs q=>by rw[ai (ar q hn)];exact q
variable {env:Env}
section
variable {prog:zO}{w:World}{A:Around}{R:Result->Shared->Prop}{s:Fp}
theorem nC {elt target iter:Expr}{ifs:wW}{scope:Scope}{it acc:Value}(I:Nat->Shared->Prop)
 (turn:∀n s,I n s->wpAny (model prog w) A (pyNext it) (λr s₁=>match r with
  |none=>R (.ok .next) s₁
  |some v=>wpAny (model prog w) A (letOwnedTupleGo target it v) (λ_ s₁=>wpAny (model prog w) A (assign target env v) (λ_ s₂ =>
   wpAny (model prog w) A (forIn ifs true λc r=>if r=true then do let ok <-isTrue c env (eval c env);pure (ForInStep.yield ok) else pure (ForInStep.yield r)) (λok s₃ =>
    if ok=true then wpAny (model prog w) A (eval elt env) (λx s₄ =>
     wpAny (model prog w) A (call (.builtin "list.append") [acc,x]) (λ_ s₅=>∃m,m<n/\I m s₅) (λ_ _=>False) s₄) (λ_ _=>False) s₃
    else ∃m,m<n/\I m s₃) (λ_ _=>False) s₂) (λ_ _=>False) s₁) (λ_ _=>False) s₁) (λ_ _=>False) s)
 (n:Nat)(h:I n s):
 codeAny (model prog w) A (.compLoop (.ListComp elt [⟨target,iter,ifs,0⟩] scope pos) 0 it acc env) R s:=by
 refine codeAny_loop rfl I (λn s hI=>?_) n h;show wpAny _ A ((compTurn (.ListComp elt [⟨target,iter,ifs,0⟩] scope pos) 0 it acc env).onRaise (λx=>do noteFrame x env;theTreesLotGoes x)) _ _ s;refine wpAny_noted ?_;rw[compTurn_list];refine wpAny_bind (wpAny_standAt (wpAny_bind (wpAny_mono (turn n s hI) (λr s₁ h₁=>?_) λ_ _ z=>False.elim z)))
 cases r with
 |none=>exact wpAny_pure h₁
 |some v =>
  refine wpAny_bind (wpAny_mono h₁ (λ_ Sd Lb=>?_) λ_ _ z=>False.elim z);refine wpAny_bind (wpAny_mono Lb (λ_ s₂ h₂=>wpAny_bind (wpAny_mono h₂ (λok s₃ h₃=>?_) λ_ _ z=>False.elim z)) λ_ _ z=>False.elim z)
  cases ok with
  |false=>exact wpAny_pure ⟨rfl,h₃⟩
  |true =>
   exact wpAny_bind (wpAny_bind (wpAny_mono h₃ (λx s₄ h₄=>wpAny_bind (wpAny_mono h₄ (λ_ s₅ h₅=>wpAny_pure (wpAny_pure ⟨rfl,h₅⟩)) λ_ _ z=>False.elim z)) λ_ _ z=>False.elim z))
end
noncomputable def dn (names:List (Str×NameKind))(env:Env):List (Str×Addr):=((names.filter λx=>x.2 == .free).map λx=>(x.1,(env.cells.lookup x.1).getD 0)).reverse
theorem gL {scope:Scope}(h:∀x∈scope.names,x.2=.free->∃c,env.cells.lookup x.1=some c):closureFor scope env=pure (dn scope.names env):=by
 have key:∀(names:List (Str×NameKind))(cs:List (Str×Addr)),(∀x∈names,x.2=.free->∃c,env.cells.lookup x.1=some c) →
  (forIn names cs (λ(x:Str×NameKind)(r:List (Str×Addr))=>if(x.2==NameKind.free)=true then(do let a <-cellOf env x.1;pure (ForInStep.yield ((x.1,a):: r))) else pure (ForInStep.yield r)):Sem (List (Str×Addr)))=pure (dn names env++cs):=by
  intro names
  induction names with
  |nil=>intro cs _;rfl
  |cons x r ih =>
   intro cs hn;rw[List.forIn_cons];obtain⟨n,k⟩:=x
   by_cases hk:k=.free
   ·subst hk;obtain⟨c,hc⟩:=hn (n,.free) List.mem_cons_self rfl
    have Lc:cellOf env n=pure c:=by unfold cellOf;rw[hc]
    simp only[beq_self_eq_true,if_true,Lc,pure_bind];rw[ih _ λy hy=>hn y (List.mem_cons_of_mem _ hy)];simp[dn,hc]
   ·have hb:(k==NameKind.free)=false:=by simpa using hk
    simp only[hb,Bool.false_eq_true,if_false,pure_bind];rw[ih _ λy hy=>hn y (List.mem_cons_of_mem _ hy)];simp[dn,hb]
 have z:=key scope.names [] h;rw[List.append_nil] at z;unfold closureFor
 first
  |exact z
  |(simp only[bind_pure];exact z)
  |(simp;exact z)
theorem ig {names:List (Str×NameKind)}(h:∀x∈names,x.2=.free->∃c,env.cells.lookup x.1=some c){c:Addr}(e:(dn names env).lookup x=some c):env.cells.lookup x=some c:=by
 have m:=PySem.mem_of_lookup e;unfold dn at m;rw[List.mem_reverse,List.mem_map] at m;obtain⟨y,hy,e'⟩:=m;rw[List.mem_filter] at hy;obtain⟨c',Gd⟩:=h y hy.1 (by simpa using hy.2);rw[Gd] at e'
 injection e' with e1 e2
 subst e1;rw[Gd];exact congrArg some e2
theorem oA {names:List (Str×NameKind)}{env:Env}(hm:(x,NameKind.free)∈names):∃c,(dn names env).lookup x=some c:=by
 have m:∃c,(x,c)∈dn names env:=⟨(env.cells.lookup x).getD 0,by
  unfold dn;rw[List.mem_reverse,List.mem_map]
  exact⟨(x,.free),List.mem_filter.mpr ⟨hm,rfl⟩,rfl⟩⟩
 obtain⟨c,m⟩:=m
 cases q:(dn names env).lookup x with
 |some d=>exact⟨d,rfl⟩
 |none =>
  exfalso
  have:∀(l:List (Str×Addr)),(x,c)∈l->l.lookup x≠none:=by
   intro l
   induction l with
   |nil=>intro h;cases h
   |cons p r ih =>
    intro h;rw[List.lookup_cons]
    rcases List.mem_cons.mp h with h|h
    ·subst h;simp
    ·split
     ·simp
     ·exact ih h
  exact this _ m q
noncomputable def bQ (X:Cx)(N:nO)(scope:Scope)(C:Addr)(fp:List Addr)(s:Fp)(H:Hp):Cx where
 prog:=X.prog
 w:=X.w
 K:=X.K
 mg:=X.mg
 base:=X.base
 A:=X.A
 N:=N
 s₀:=s
 H₀:=H
 env:=compEnvC scope (dn scope.names X.env) C X.env
 outer:=X.stack
 stack:=X.stack
 ex:=fp
 fn:=λ_=>false
 calm:=X.calm
 pn:=[]
 xe:=λ_ _=>False
noncomputable def σC (nl:Nat)(js:List Nat)(σ:St):St:=List.replicate nl none++js.map λj=>(σ[j]?).join
structure A7 (X:Cx)(N:nO)(nl:Nat)(js:List Nat)(osc scope:Scope):Prop where
 out:X.env.scope=osc
 kind:scope.kind=.function
 cell:∀y∈scope.names,y.2≠.cell
 names:∀y∈scope.names,y.2=.local->scope.names.lookup y.1=some .local
 free:∀y∈scope.names,y.2=.free->osc.names.lookup y.1=some .cell\/osc.names.lookup y.1=some .free
 len:N.length=nl+js.length
 src:Paired (λj x=>X.N[j]?=some x/\(x,NameKind.free)∈scope.names) js (N.drop nl)
 acJ:∀y∈scope.names,y.2=.free->scope.names.lookup y.1≠some .local
theorem fh {env:Env}:∀{names:List (Str×NameKind)}{x:Str}{k:NameKind},(∀y∈names,y.2≠.cell) →
 (names.map λ(n,k)=>if(k==NameKind.free&&env.scope.kind == .function&&env.kindOf n==some .cell) then(n,NameKind.cell) else(n,k)).lookup x=some k->(k=.cell\/k=.free)->(x,NameKind.free)∈names
 |[],_,_,_,h,_=>by simp at h
 |(n,k0):: r,x,k,hc,h,hk=>by
  have h:List.lookup x ((if(k0==NameKind.free&&env.scope.kind == .function&&env.kindOf n==some .cell)=true then(n,NameKind.cell) else(n,k0)):: r.map λ(n,k)=>if(k==NameKind.free&&env.scope.kind == .function&&env.kindOf n==some .cell) then(n,NameKind.cell) else(n,k))=some k:=h;have ih:=@fh env r x k λy hy=>hc y (List.mem_cons_of_mem _ hy)
  by_cases hx:x=n
  ·subst hx
   have Ld:k0=.free:=by
    by_cases hb:(k0==NameKind.free&&env.scope.kind == .function&&env.kindOf x==some .cell)=true
    ·have:=(Bool.and_eq_true_iff.mp (Bool.and_eq_true_iff.mp hb).1).1;simpa using this
    ·rw[if_neg hb] at h;simp only[List.lookup_cons,beq_self_eq_true] at h;have e:k0=k:=Option.some.inj h
     rcases hk with z|z
     ·exact absurd (e.trans z) (hc (x,k0) List.mem_cons_self)
     ·exact e.trans z
   subst Ld;exact List.mem_cons_self
  ·have hb:(x==n)=false:=by simpa using hx
   refine List.mem_cons_of_mem _ (ih ?_ hk)
   by_cases Gd:(k0==NameKind.free&&env.scope.kind == .function&&env.kindOf n==some .cell)=true
   ·rw[if_pos Gd] at h;simp only[List.lookup_cons,hb] at h;exact h
   ·rw[if_neg Gd] at h;simp only[List.lookup_cons,hb] at h;exact h
variable {pins:List (Addr×Obj)}{σ:St}{b C:Addr}{s:Fp}{g:TG}{tt:TT}{te:TE}
section
variable {X:Cx}{tg iter elt:Expr}{ifs:wW}{scope osc:Scope}{pos:Pos}{N:nO}{nl:Nat}{js:List Nat}
noncomputable def uS (X:Cx)(ifs:wW)(t:TT):Prop :=
 ∀(pins:List (Addr×Obj))(s:Fp)(σ:St)(H:Hp)(Q:Bool->Hp->Prop),Inv X pins σ H s->t σ H Q →
  wpAny (model X.prog X.w) X.A (forIn ifs true λc r=>if r=true then do let ok <-isTrue c X.env (eval c X.env);pure (ForInStep.yield ok) else pure (ForInStep.yield r)) (TP X pins σ Q) X.xe s
noncomputable def BX:TT:=λ_ H Q=>Q true H
theorem ck:uS X [] BX:=λ_ _ _ H _ I h=>wpAny_tests_nil ⟨H,I,h⟩
theorem fA {c:Expr}{t:TT}(h:PT X c t):uS X [c] t:=λpins s σ H Q I hw=>wpAny_tests_one (h pins s σ H Q I hw)
theorem cm {s:Fp}{h':Heap}(I:Inv X pins σ H s)(f:cq X pins H b)(sb:Heap.SameBut b s.heap h'):Inv X pins σ H {s with heap:=h'}:=
 I.turned (t':=s.toks) (λc o hc e=>(sb.2 c hc).trans e) f.1 f.2.1 f.2.2.2.1 f.2.2.2.2.1 f.2.2.2.2.2
noncomputable def lO (J:It)(g:TG)(tt:TT)(te:TE)(W:Nat->Nat->List V->St->Hp->Prop)(Fin:List V->Hp->Prop):Prop :=
 ∀i m xs σ' H',W i m xs σ' H'->xs.length<sizeLine/\((J.stop i H'/\Fin xs H') \/
  (J.go i H'/\∀x H2,J.yld i H' x H2->g x σ' H2 λσ3 H3=>tt σ3 H3 λb H4 =>
   if b=true then te σ3 H4 λy H5=>∃m',m'<m/\W (i+1) m' (xs++[y]) σ3 H5 else ∃m',m'<m/\W (i+1) m' xs σ3 H4))
theorem i5 {s:Fp}{fp:List Addr}{h1:Heap}{tk:Nat}(S:A7 X N nl js osc scope)(I:Inv X pins σ H s)(f:∀b∈fp,cq X pins H b)(Iu:∀b∈fp,b<s.heap.objs.size)
 (hC:s.heap.objs.size<=C)(old:∀b o,s.heap.get? b=some o->h1.get? b=some o){m1:yN}(Mt:h1.Ns C m1):
 Inv (bQ X N scope C fp s H) [] (σC nl js σ) H {s with heap:=h1,toks:=tk}:=by
 have GC:∀y∈scope.names,y.2=.free->X.env.kindOf y.1=some .cell\/X.env.kindOf y.1=some .free:=λy hy hf=>by
  have:=S.free y hy hf;rw[<-S.out] at this;exact this
 have Gy:∀y∈scope.names,y.2=.free->∃c,X.env.cells.lookup y.1=some c:=λy hy hf=>I.ok.has y.1 (GC y hy hf);have sub:∀x c,(dn scope.names X.env).lookup x=some c->X.env.cells.lookup x=some c:=λx c e=>ig Gy e
 have Jz:∀b∈fp,b∉dz X.stack:=λb hb z=>by
  rcases List.mem_cons.mp (I.aao b z) with q|q
  ·exact(f b hb).2.1 q
  ·exact(f b hb).2.2.1 q
 refine⟨⟨I.ok.mod,S.kind,I.ok.glob,I.ok.blt,hC,λx y c e1 e2=>I.ok.inj x y c (sub x c e1) (sub y c e2),λx hx=>?_,λx c z _=>absurd z (by show ¬(false=true);decide),I.ok.hd,I.ok.frames,.inl rfl,
  λb hb=>⟨Nat.ne_of_lt (Nat.lt_of_lt_of_le (Iu b hb) hC),λx c e=>(f b hb).2.2.2.2.1 x c (sub x c e)⟩,I.bs,Nat.le_trans I.ok.bsz I.sz,λb o e hb=>?_,Jz,I.stack,I.aaE⟩,
  rfl,I.bare,Un.kept old,⟨m1,Mt,λi x v e1 e2 e3=>?_⟩,λx c e=>?_,I.hok.fresh hC,λx c e=>I.aag x c (sub x c e),λp hp=>absurd (show p∈([]:List (Addr×Obj)) from hp) (by simp),I.hok.kept old,?_⟩
 ·have hx:(relabel scope X.env).names.lookup x=some .cell\/(relabel scope X.env).names.lookup x=some .free:=hx
  have m:(x,NameKind.free)∈scope.names:=by
   rcases hx with z|z
   ·exact fh S.cell z (.inl rfl)
   ·exact fh S.cell z (.inr rfl)
  exact oA m
 ·rcases(f b hb).2.2.2.1 with z|z
  ·exact I.ok.aa6 b o e z
  ·exact absurd (Nat.lt_of_lt_of_le (Heap.lt_size e) (Nat.le_trans I.ok.bsz z)) (Nat.lt_irrefl _)
 ·-- J8 names
  have e1:N[i]?=some x:=e1;unfold σC at e2
  by_cases hi:i<nl
  ·rw[List.getElem?_append_left (by simpa using hi),List.getElem?_replicate] at e2
   split at e2 <;> cases e2
  ·obtain⟨k,rfl⟩:∃k,i=nl+k:=⟨i-nl,by omega⟩;rw[List.getElem?_append_right (by simp),List.length_replicate,Nat.add_sub_cancel_left,List.getElem?_map] at e2
   cases ej:js[k]? with
   |none=>rw[ej] at e2;cases e2
   |some j =>
    rw[ej] at e2;have e2:some ((σ[j]?).join)=some (some v):=e2;have e2:=Option.some.inj e2
    have e4:σ[j]?=some (some v):=by
     cases q:σ[j]? with
     |none=>rw[q] at e2;cases e2
     |some z=>rw[q] at e2;exact congrArg some e2
    have e5:(N.drop nl)[k]?=some x:=by rw[List.getElem?_drop];exact e1
    have gp:∀{l1:List Nat}{l2:nO}{k:Nat}{j:Nat}{x:Str},Paired (λj x=>X.N[j]?=some x/\(x,NameKind.free)∈scope.names) l1 l2->l1[k]?=some j->l2[k]?=some x->X.N[j]?=some x/\(x,NameKind.free)∈scope.names:=by
     intro l1 l2 k j x p
     induction p generalizing k with
     |nil=>intro h;simp at h
     |cons r _ ih =>
      intro h1 h2
      cases k with
      |zero=>simp at h1 h2;subst h1;subst h2;exact r
      |succ k=>exact ih (by simpa using h1) (by simpa using h2)
    obtain⟨hx,hm⟩:=gp S.src ej e5;have hk:=GC (x,.free) hm rfl;obtain⟨m,hn,hl⟩:=I.loc
    have RT:CL X.env.scope x:=by
     rcases hk with z|z
     ·exact .inr (.inl z)
     ·exact .inr (.inr z)
    obtain⟨u,r,l⟩:=hl j x v hx e4 RT;refine⟨u,r,?_⟩
    rcases l with⟨k1,_⟩|⟨_,c,hc,Gm⟩
    ·exfalso
     rcases hk with z|z <;> (rw[z] at k1;cases k1)
    ·obtain⟨c',Gd⟩:=oA (env:=X.env) hm;have:=sub x c' Gd;rw[hc] at this
     cases this
     refine .inr ⟨?_,c,Gd,?_⟩
     ·rcases e3 with z|z|z
      ·-- a name of J8 Rn own: no
       exfalso
       have lk:scope.names.lookup x=some .local:=by
        have gen:∀(l:List (Str×NameKind)),(l.map λ(n,k)=>if(k==NameKind.free&&X.env.scope.kind == .function&&X.env.kindOf n==some .cell) then(n,NameKind.cell) else(n,k)).lookup x=some .local->l.lookup x=some .local:=by
         intro l
         induction l with
         |nil=>intro h;simp at h
         |cons p r ih =>
          obtain⟨n,k0⟩:=p;intro h;have h:List.lookup x ((if(k0==NameKind.free&&X.env.scope.kind == .function&&X.env.kindOf n==some .cell)=true then(n,NameKind.cell) else(n,k0)):: r.map λ(n,k)=>if(k==NameKind.free&&X.env.scope.kind == .function&&X.env.kindOf n==some .cell) then(n,NameKind.cell) else(n,k))=some .local:=h
          cases hb:x==n with
          |true =>
           by_cases Gd:(k0==NameKind.free&&X.env.scope.kind == .function&&X.env.kindOf n==some .cell)=true
           ·rw[if_pos Gd] at h;simp only[List.lookup_cons,hb] at h;cases h
           ·rw[if_neg Gd] at h;simp only[List.lookup_cons,hb] at h |-;exact h
          |false =>
           simp only[List.lookup_cons,hb];refine ih ?_
           by_cases Gd:(k0==NameKind.free&&X.env.scope.kind == .function&&X.env.kindOf n==some .cell)=true
           ·rw[if_pos Gd] at h;simp only[List.lookup_cons,hb] at h;exact h
           ·rw[if_neg Gd] at h;simp only[List.lookup_cons,hb] at h;exact h
        exact gen _ z
       exact S.acJ (x,.free) hm rfl lk
      ·exact .inl z
      ·exact .inr z
     ·obtain⟨o,ho,hd⟩:=Gm;exact⟨o,old _ _ ho,hd⟩
 ·obtain⟨v,o,ho,hd⟩:=I.cell x c (sub x c e);exact⟨v,o,old _ _ ho,hd⟩
 ·show(σC nl js σ).length=N.length;unfold σC;rw[List.length_append,List.length_replicate,List.length_map,S.len]
noncomputable abbrev iB (ys:xF)(k:Nat):Obj:={cls:=.type "list",data:=.seq ys.toArray k}
theorem lh {J:It}{it:Addr}{fp:List Addr}{tn:Nat->Heap->Prop}{W:Nat->Nat->List V->St->Hp->Prop}{Fin:List V->Hp->Prop}
 {E:oP}{RR:Value->Addr->Result->Shared->Prop}
 (S:A7 X N nl js osc scope)(hc:X.calm=true)(hg:∀C fp s H,PG (bQ X N scope C fp s H) tg g)(ht:∀C fp s H,uS (bQ X N scope C fp s H) ifs tt)(he:∀C fp s H,PE (bQ X N scope C fp s H) elt te)
 (I:Inv X pins σ H s)(T:Turn X.prog X.w X.K tg J fp it tn)(st:tn 0 s.heap)(f:∀b∈fp,cq X pins H b)(w0:∃m,W 0 m [] (σC nl js σ) H)(hW:lO J g tt te W Fin)
 (MX:∀(D C:Addr)(H':Hp)(s':Fp)(xs:List V)(m:yN),Inv X pins σ (upd H' D (.lst xs)) s'->H' D=none->s'.heap.Ns C m->cq X pins (upd H' D (.lst xs)) C->Fin xs H'->RR (.ref D) C (.ok .next) s'):
 wpAny (model X.prog X.w) X.A (newList []) (λacc s₃=>wpAny (model X.prog X.w) X.A (newFunctionEnv scope X.env.globals (dn scope.names X.env) [] X.env.qual none .none (some X.env)) (λHC s₄ =>
  codeAny (model X.prog X.w) X.A (.compStart (.ListComp elt [⟨tg,iter,ifs,0⟩] scope pos) 0 (.ref it) acc {HC with scope:=relabel scope X.env}) (RR acc HC.locals) s₄) E s₃) E s:=by
 have Iu:∀b∈fp,b<s.heap.objs.size:=λb hb=>by
  obtain⟨o,e,_⟩:=T.obj 0 _ st b hb;exact Heap.lt_size e
 refine wpAny_newObj_type (wpAny_newFunctionEnv S.cell (by intro y hy;simp at hy) (λh₁ GY GI=>?_) S.kind);dsimp only at GY GI |-;generalize Jk:s.heap.push {cls:=.type "list",dict:=none,data:=.seq ([]:xF).toArray}=H2 at GY GI |-
 have hC:H2.objs.size=s.heap.objs.size+1:=by rw[<-Jk,Heap.size_push]
 have Jl:s.heap.objs.size≠H2.objs.size:=by rw[hC];exact Nat.ne_of_lt (Nat.lt_succ_self _)
 have below:∀b,b<s.heap.objs.size->b≠H2.objs.size/\b≠s.heap.objs.size:=λb hb=>⟨by rw[hC];exact Nat.ne_of_lt (Nat.lt_succ_of_lt hb),Nat.ne_of_lt hb⟩;have old:∀b o,s.heap.get? b=some o->h₁.get? b=some o:=λb o e=>GI.extBut b o (below b (Heap.lt_size e)).1 (Heap.get?_push_of_some _ (Jk▸Heap.get?_push_of_some _ e));have Le:h₁.get? s.heap.objs.size=some {cls:=.type "list",data:=.seq ([]:xF).toArray 0}:=GI.extBut _ _ Jl (Heap.get?_push_of_some _ (Jk▸Heap.get?_push_size _ rfl))
 have HN:s.heap.objs.size<=H2.objs.size:=by rw[hC];exact Nat.le_succ _
 have Gy:∀y∈scope.names,y.2=.free->∃c,X.env.cells.lookup y.1=some c:=λy hy hf=>by
  have z:=S.free y hy hf;rw[<-S.out] at z;exact I.ok.has y.1 z
 have sub:∀x c,(dn scope.names X.env).lookup x=some c->X.env.cells.lookup x=some c:=λx c e=>ig Gy e
 have Se:∀x c,(dn scope.names X.env).lookup x=some c->c<s.heap.objs.size:=λx c e=>by
  obtain⟨v,q⟩:=I.cell x c (sub x c e);exact q.lt
 have Jz:∀b∈fp,b∉dz X.stack:=λb hb z=>by
  rcases List.mem_cons.mp (I.aao b z) with q|q
  ·exact(f b hb).2.1 q
  ·exact(f b hb).2.2.1 q
 have Mu:s.heap.objs.size∉dz X.stack:=λz=>by
  rcases List.mem_cons.mp (I.aao _ z) with q|q
  ·exact absurd I.lt (by rw[<-q];exact Nat.lt_irrefl _)
  ·exact I.ab0 (Nat.le_refl _) q
 have MZ:s.heap.objs.size∉fp:=λz=>Nat.lt_irrefl _ (Iu _ z)
 have IE:∀{H':Hp}{ob:Obj},(∀b∈fp,H' b=none)->∀b∈fp,cq (bQ X N scope H2.objs.size fp s H) [(s.heap.objs.size,ob)] H' b:=λ{H' ob} hn b hb =>
  ⟨hn b hb,(below b (Iu b hb)).1,Jz b hb,.inl hb,λx c e=>(f b hb).2.2.2.2.1 x c (sub x c e),λp hp z=>by
   have e:p=(s.heap.objs.size,ob):=by
    have:p∈[(s.heap.objs.size,ob)]:=hp;simpa using this
   subst e
   exact MZ (by rw[show s.heap.objs.size=b from z];exact hb)⟩
 have Sf:∀{H':Hp},H' s.heap.objs.size=none->cq (bQ X N scope H2.objs.size fp s H) [] H' s.heap.objs.size:=λ{H'} hn =>
  ⟨hn,Jl,Mu,.inr (Nat.le_refl _),λx c e=>Nat.ne_of_lt (Se x c e),λp hp=>absurd (show p∈([]:List (Addr×Obj)) from hp) (by simp)⟩
 have JA:∀{σ':St}{H':Hp}{s':Fp}{ys:xF}{k:Nat},Inv (bQ X N scope H2.objs.size fp s H) [] σ' H' s'->H' s.heap.objs.size=none->s'.heap.get? s.heap.objs.size=some (iB ys k) →
  Inv (bQ X N scope H2.objs.size fp s H) [(s.heap.objs.size,iB ys k)] σ' H' s':=λ{σ' H' s' ys k} I' hn hl=>I'.aap λp hp=>by
  have e:p=(s.heap.objs.size,iB ys k):=by simpa using hp
  subst e;exact⟨hl,hn,Jl,Mu,λv z=>by cases z⟩
 have ik:∀s₃:Shared,s₃={s with heap:=h₁,toks:=s.toks+([]:List (Str×Value)).length} →
  codeAny (model X.prog X.w) X.A (.compLoop (.ListComp elt [⟨tg,iter,ifs,0⟩] scope pos) 0 (.ref it) (.ref s.heap.objs.size) (compEnvC scope (dn scope.names X.env) H2.objs.size X.env))
   (RR (.ref s.heap.objs.size) H2.objs.size) s₃:=by
  rintro s₃ rfl;obtain⟨m0,w0⟩:=w0;have I0:Inv (bQ X N scope H2.objs.size fp s H) [] (σC nl js σ) H {s with heap:=h₁,toks:=s.toks+([]:List (Str×Value)).length}:=i5 S I f Iu HN old GY
  refine nC (λn s'=>∃i σ' H' xs ys k,Inv (bQ X N scope H2.objs.size fp s H) [(s.heap.objs.size,iB ys k)] σ' H' s'/\tn i s'.heap/\(∀b∈fp,H' b=none)/\aR xs ys/\W i n xs σ' H') ?_ m0
   ⟨0,σC nl js σ,H,[],[],0,JA I0 (I.hok.fresh (Nat.le_refl _)) Le,T.keep _ _ _ st λb _ o e=>old b o e,λb hb=>(f b hb).1,.nil,w0⟩
  rintro n s' ⟨i,σ',H',xs,ys,k,I',GG,Kd,rv,w'⟩;obtain⟨hz,hw⟩:=hW i n xs σ' H' w'
  rcases hw with⟨stop,fin⟩|⟨go,step⟩
  ·refine wpAny_mono (T.done (bQ X N scope H2.objs.size fp s H) rfl rfl rfl hc i _ s' σ' H' (λ_ _=>False) I' (IE Kd) GG stop) (λr s1 z'=>?_) λ_ _ z=>z;obtain⟨hr,I1⟩:=z';subst hr;obtain⟨p1,p2,_⟩:=I1.pin (s.heap.objs.size,iB ys k) (by show _∈([]:List (Addr×Obj))++[_];simp);have u1:Un (dz X.stack) fp H H' s.heap s1.heap:=I1.base
   have u2:Un (dz X.stack) fp H (upd H' s.heap.objs.size (.lst xs)) s.heap s1.heap:=⟨u1.keep,u1.slot,λb o e n hx=>by rw[ai (Nat.ne_of_lt (Heap.lt_size e))];exact u1.free b o e n hx,u1.there,
    λb zs e=>by rw[ai (ar (u1.aam b zs e) p2)];exact u1.aam b zs e,λb o zs e=>by rw[ai (ar (u1.aak b o zs e) p2)];exact u1.aak b o zs e,λb ps e=>by
     obtain⟨mo,q⟩:=u1.aas b ps e
     exact⟨mo,by rw[ai (ar q p2)];exact q⟩⟩
   have hk:eK X.prog X.w (upd H' s.heap.objs.size (.lst xs)) s1.heap:=c7 I1.hok p2 ⟨Nat.le_of_lt hz,ys,k,rv,p1⟩;have I3:Inv X pins σ (upd H' s.heap.objs.size (.lst xs)) s1:=I.aa7 I1.os u2 hk I1.bare λb hb=>⟨(f b hb).2.2.2.1,(f b hb).2.1,(f b hb).2.2.2.2.1,(f b hb).2.2.2.2.2⟩;obtain⟨mm,M0,_⟩:=I1.loc
   have Sg:upd H' s.heap.objs.size (.lst xs) H2.objs.size=none:=by rw[ai (Ne.symm Jl)];exact I1.free
   exact MX _ _ H' s1 xs mm I3 p2 M0 (I.aaK HN Sg) fin
  ·refine wpAny_mono (T.item (bQ X N scope H2.objs.size fp s H) rfl rfl rfl hc i _ s' σ' H' (λ_ _=>False) I' (IE Kd) GG go) (λr s1 z'=>?_) λ_ _ z=>z;obtain⟨u,hr,h4⟩:=z';subst hr;refine wpAny_mono h4 (λ_ s2 z'=>?_) λ_ _ z=>z;obtain⟨x,Ke,I2,r2,y2,GX,M1⟩:=z';have M3:=I2.pinned (IE M1) (T.obj _ _ GX);refine wpAny_mono (hg _ _ _ _ _ s2 σ' Ke x u _ M3 r2 (step x Ke y2)) (λ_ s3 z'=>?_) λ_ _ z=>z;obtain⟨σ3,H3,I3,q3⟩:=z';refine wpAny_mono (ht _ _ _ _ _ s3 σ3 H3 _ I3 q3) (λok s4 z'=>?_) λ_ _ z=>z;obtain⟨H4,I4,q4⟩:=z'
   have back:∀{s5:Fp}{H5:Hp},Inv (bQ X N scope H2.objs.size fp s H) ([(s.heap.objs.size,iB ys k)]++di fp s2.heap) σ3 H5 s5->tn (i+1) s5.heap/\∀b∈fp,H5 b=none:=λ{s5 H5} I5 =>
    ⟨T.keep _ _ _ GX λb hb o e=>(I5.pin (b,o) (List.mem_append_right _ (List.mem_append_right _ (cg hb e)))).1,λb hb=>by
     obtain⟨o,e,d⟩:=T.obj _ _ GX b hb
     exact(I5.pin (b,o) (List.mem_append_right _ (List.mem_append_right _ (cg hb e)))).2.1⟩
   cases ok with
   |false =>
    rw[if_neg Bool.false_ne_true] at q4 |-;obtain⟨m',hm,w4⟩:=q4;exact⟨m',hm,i+1,σ3,H4,xs,ys,k,I4.aai,(back I4).1,(back I4).2,rv,w4⟩
   |true =>
    rw[if_pos rfl] at q4 |-;refine wpAny_mono (he _ _ _ _ _ s4 σ3 H4 _ I4 q4) (λv s5 z'=>?_) λ_ _ z=>z;obtain⟨y,H5,I5,r5,m',hm,w5⟩:=z';obtain⟨p1,p2,_⟩:=I5.pin (s.heap.objs.size,iB ys k) (List.mem_append_right _ (List.mem_append_left _ (by simp)));obtain⟨MN,RU⟩:=back I5;refine append_at (its:=ys.toArray) p1 (λh' sb hD=>?_) (by rw[List.size_toArray,<-rv.length];exact Nat.le_of_lt hz);have I6:Inv (bQ X N scope H2.objs.size fp s H) [] σ3 H5 {s5 with heap:=h'}:=cm (I5.aap (pins':=[]) λp hp=>absurd hp (by simp)) (Sf p2) sb;refine⟨m',hm,i+1,σ3,H5,xs++[y],ys++[v],k+1,JA I6 p2 ?_,T.keep _ _ _ MN λb hb o e=>(sb.2 b λz=>MZ (z▸hb)).trans e,RU,rv.append (.cons r5 .nil),w5⟩;rw[hD];show some _=some (iB (ys++[v]) (k+1));rw[iB,<-List.push_toArray]
 exact codeAny_compStart_list (ik _ rfl) (T.self X.A 0 _ _ _ (T.keep _ _ _ st λb _ o e=>old b o e) (ik _ rfl))
noncomputable def sI (wi:TI)(g:TG)(tt:TT)(te:TE)(nl:Nat)(js:List Nat):TE:=λσ H Q=>wi σ H λJ H1 =>
 ∃W:Nat->Nat->List V->St->Hp->Prop,(∃m,W 0 m [] (σC nl js σ) H1)/\lO J g tt te W λxs H'=>∀D,H' D=none->Q (.ref D) (upd H' D (.lst xs))
theorem dW (S:A7 X N nl js osc scope)(I:Inv X pins σ H s):closureFor scope X.env=pure (dn scope.names X.env):=gL λy hy hf=>by
 have z:=S.free y hy hf;rw[<-S.out] at z;exact I.ok.has y.1 z
theorem cI {wi:TI}(S:A7 X N nl js osc scope)(hc:X.calm=true)(hi:PI X tg iter wi)(hg:∀C fp s H,PG (bQ X N scope C fp s H) tg g)(ht:∀C fp s H,uS (bQ X N scope C fp s H) ifs tt)
 (he:∀C fp s H,PE (bQ X N scope C fp s H) elt te)(hs:∀x,foldedSetIterable iter X.env x=pure x:=by intro _;rfl):
 PE X (.ListComp elt [⟨tg,iter,ifs,0⟩] scope pos) (sI wi g tt te nl js):=by
 intro pins s σ H Q I h;rw[eval_ListComp];refine wpAny_comprehension_free (use:=none) rfl hs (dW S I) S.kind S.names (bA (hi pins s σ H _ I h) λv s1 h1=>bA h1 λKb s2 h2=>?_);obtain⟨it,fp,tn,J,H2,e,I2,T,GX,f2,W,w0,hW⟩:=h2;subst e;refine lh (RR:=λacc C=>compPost (model X.prog X.w) X.A X.xe none (EP X pins σ Q) acc C) S hc hg ht he I2 T GX f2 w0 hW ?_;intro D C H' s' xs m I3 hD hn fC fin;exact⟨m,hn,λh' sb=>⟨.ref D,_,cm I3 fC sb,rfl,fin D hD⟩⟩
theorem iH {i:Nat}{y:Str}{py IF:Pos}{wi:TI}(S:A7 X N nl js osc scope)(hc:X.calm=true)(hN:X.N.Nodup)(hy:X.N[i]?=some y)(hl:Ar X.env.scope y)(hi:PI X tg iter wi)
 (hg:∀C fp s H,PG (bQ X N scope C fp s H) tg g)(ht:∀C fp s H,uS (bQ X N scope C fp s H) ifs tt)(he:∀C fp s H,PE (bQ X N scope C fp s H) elt te)
 (Sh:swapsWith (.ListComp elt [⟨tg,iter,ifs,0⟩] scope pos) (some (.Name y py)) IF.line X.env=pure true)(hs:∀x,foldedSetIterable iter X.env x=pure x:=by intro _;rfl)
 (hf:X.fn y=true\/X.env.scope.names.lookup y=some .local:=by first|exact .inl rfl|exact .inr rfl|assumption):
 PS X (.Assign [.Name y py] (.ListComp elt [⟨tg,iter,ifs,0⟩] scope pos) IF) (iO (sI wi g tt te nl js) (aZ i)):=by
 intro pins s σ H D I h;rw[exec_Assign_Name_used _ _ _ _ Sh];refine wpAny_bind (wpAny_standAt (wpAny_bind ?_));show wpAny _ X.A (do let _ <-comprehension (.ListComp elt [⟨tg,iter,ifs,0⟩] scope pos) scope X.env _ (newList []) false (eval iter X.env) (some (assign (.Name y py) X.env))) _ _ s
 refine wpAny_bind (wpAny_mono (wpAny_comprehension_free (use:=some (assign (.Name y py) X.env)) (Q:=λ_ s'=>SP X pins D .next s') rfl hs (dW S I) S.kind S.names
  (bA (hi pins s σ H _ I h) λv s1 h1=>bA h1 λKb s2 h2=>?_)) (λ_ s' hq=>wpAny_pure (wpAny_pure hq)) λ_ _ e=>e)
 obtain⟨it,fp,tn,J,H2,e,I2,T,GX,f2,W,w0,hW⟩:=h2;subst e;refine lh (RR:=λacc C=>compPost (model X.prog X.w) X.A X.xe (some (assign (.Name y py) X.env)) (λ_ s'=>SP X pins D .next s') acc C) S hc hg ht he I2 T GX f2 w0 hW ?_;intro Dd C H' s' xs m I3 hD hn fC fin;show wpAny _ X.A (assign (.Name y py) X.env (.ref Dd)) _ _ _;refine wpAny_assign_Name (iY I3 hN hy hl (show aD (.ref Dd) (.ref Dd) from rfl) (λs4 I4 z'=>?_) hf);obtain⟨a,sb,ha⟩:=z';refine⟨m,hn.sameBut sb ?_,λh' HV=>⟨_,_,cm I4 fC HV,fin Dd hD⟩⟩
 rcases ha with z|z
 ·rw[z];exact fC.2.1
 ·exact λq=>fC.2.2.2.2.1 _ _ z q.symm
end
open PySem.W
noncomputable def Ft (h B:Heap)(e:Addr)(cls a0 fl:Value)(d:zR):Prop :=
 ∃(o:Obj)(vs:va)(T:Addr)(oT:Obj)(ts:va),h.get? e=some o/\o.dict=d/\(o.cls=cls/\vs[0]?=some a0)/\o.data=.fields vs/\vs[1]?=some (.ref T)/\B.get? T=none/\T≠e/\h.get? T=some oT/\oT.data=.fields ts/\ts[3]?=some fl
structure Bj (B:Heap)(l:List Env)(e:Addr)(cls a0 fl:Value)(d:zR)(h:Heap):Prop where
 st:B.StaysIn h
 new:B.get? e=none
 fr:h.FunFrames B l
 tr:Ft h B e cls a0 fl d
variable {o:Obj}{vs:va}{l:List Env}{fl:Value}
section
variable {M:Model}{A:Around}{E:oP}{s:Fp}{B:Heap}{env:Env}{outer:List Env}{L e:Addr}{cls a0:Value}{d:zR}{Q:Unit->Shared->Prop}
theorem qW {hd:Value}{nx:Bool}(Ih:A.frames=some (env::outer))(fr:s.heap.FunFrames B (env::outer))(hf:env.frame=some L)(st:B.StaysIn s.heap)(new:B.get? e=none)
 (he:s.heap.get? e=some o)(HE:o.dict=d)(hc:o.cls=cls)(hv:o.data=.fields vs)(h1:1<vs.size)(h0:vs[0]?=some a0)
 (h:∀h',Bj B (env::outer) e cls a0 (rawInt L) d h'->s.heap.UpToSlots h'->Q () {s with heap:=h'}):
 wpAny M A (do let a <-frameOf env;let pl <-entryPlaceOf L nx;let b <-EntryCells.newEntry hd a .none (rawInt L) .none pl;setField (.ref e) 1 b) Q E s:=by
 have nf:e∉(env::outer).filterMap (·.frame):=λm=>by
  obtain⟨_,o',GO,q⟩:=fr.mem m;rw[he] at GO;cases GO;exact q vs hv
 refine wpAny_bind (wpAny_frameOf_fun Ih fr hf λg sl=>wpAny_bind (wpAny_entryPlaceOf λpl HA=>?_));unfold EntryCells.newEntry newFields;refine wpAny_bind (wpAny_newObj_type ?_ (HA.sizeOk5 _ _ _ _ _));have e1:g.get? e=some o:=(sl.2.1 e nf).trans he;have M4:B.StaysIn g:=λb ob q=>(sl.2.1 b λm=>by rw[(fr.mem m).1] at q;cases q).trans (st b ob q);have ne:g.objs.size≠e:=Nat.ne_of_gt (Heap.lt_size e1);have dv:=Obj.data_mapFields hv (·.setIfInBounds 1 (Value.ref g.objs.size))
 have kp:∀(oT:Obj) b ob,b≠e->g.get? b=some ob->((g.push oT).update e (Obj.mapFields (·.setIfInBounds 1 (Value.ref g.objs.size)))).get? b=some ob:=λoT b ob hb q =>
  (Heap.get?_update_other _ _ (Ne.symm hb)).trans (Heap.get?_push_of_some _ q)
 have nr:∀b ob,s.heap.get? b=some ob->(∀ws,ob.data≠.fields ws)->b≠e:=λb ob q hn z=>by rw[z,he] at q;cases q;exact hn vs hv
 refine wpAny_setField (Heap.get?_push_of_some _ e1) hv h1 (h _ ⟨λb ob q=>kp _ b ob (λz=>by rw[z,new] at q;cases q) (M4 b ob q),new,fr.of_keeps λb ob q hn=>?_,?_⟩ λb ob q hn=>?_)
 ·obtain⟨z,q1⟩:=sl.2.2 b ob q;exact⟨_,kp _ b _ (nr b ob q hn) q1,rfl⟩
 ·refine⟨_,_,g.objs.size,_,_,Heap.get?_update_self _ (Heap.get?_push_of_some _ e1) (Obj.isFreed_of_fields dv),?_,⟨(Obj.cls_mapFields _ _).trans hc,by rw[Array.getElem?_setIfInBounds_ne (by decide)];exact h0⟩,dv,by simp[h1],M4.fresh,ne,
   (Heap.get?_update_other _ _ (Ne.symm ne)).trans (Heap.get?_push_size g rfl),rfl,by first|(simp;done)|(rcases HA with rfl|⟨_,_,_,_,_,_,_,rfl⟩ <;> simp)⟩
  rw[<-HE]
  cases o
  dsimp only at hv;subst hv;rfl
 ·obtain⟨z,q1⟩:=sl.2.2 b ob q;exact⟨z,kp _ b _ (nr b ob q hn) q1⟩
theorem vK (Ih:A.frames=some (env::outer))(hf:env.frame=some L)(x:Bj B (env::outer) e cls a0 .none d s.heap)
 (h:∀h',Bj B (env::outer) e cls a0 (rawInt L) d h'->s.heap.UpToSlots h'->Q () {s with heap:=h'}):wpAny M A (noteFrame (.ref e) env) Q E s:=by
 obtain⟨o,vs,T,oT,ts,he,HE,⟨hc,h0⟩,hv,h1,nT,Te,hT,Kf,h3⟩:=x.tr;unfold noteFrame;simp only[hf];refine wpAny_bind (wpAny_field he hv h1 ?_);rw[if_pos (by simp)];refine wpAny_bind (wpAny_field hT Kf h3 ?_);rw[if_neg (by simp[rawInt])];refine wpAny_bind (wpAny_setField hT Kf (Array.getElem?_eq_some_iff.mp h3).1 ?_);have ot:∀b,b≠T->(s.heap.update T (Obj.mapFields (·.setIfInBounds 3 Value.none))).get? b=s.heap.get? b:=λb hb=>Heap.get?_update_other _ _ (Ne.symm hb)
 have nr:∀b ob,s.heap.get? b=some ob->(∀ws,ob.data≠.fields ws)->b≠T:=λb ob q hn z=>by rw[z,hT] at q;cases q;exact hn ts Kf
 refine qW (s:={s with heap:=s.heap.update T (Obj.mapFields (·.setIfInBounds 3 Value.none))}) Ih (x.fr.of_keeps λb ob q hn=>⟨ob,(ot b (nr b ob q hn)).trans q,rfl⟩) hf (λb ob q=>(ot b λz=>by rw[z,nT] at q;cases q).trans (x.st b ob q)) x.new
  ((ot e (Ne.symm Te)).trans he) HE hc hv (Array.getElem?_eq_some_iff.mp h1).1 h0 λh' y up=>h h' y λb ob q hn=>up b ob ((ot b (nr b ob q hn)).trans q) hn
theorem vy (Ih:A.frames=some (env::outer))(fr:s.heap.FunFrames B (env::outer))(hf:env.frame=some L)(st:B.StaysIn s.heap)(new:B.get? e=none)
 (he:s.heap.get? e=some o)(HE:o.dict=d)(hc:o.cls=cls)(hv:o.data=.fields vs)(h1:vs[1]?=some .none)(h0:vs[0]?=some a0)
 (h:∀h',Bj B (env::outer) e cls a0 (rawInt L) d h'->s.heap.UpToSlots h'->Q () {s with heap:=h'}):wpAny M A (noteFrame (.ref e) env) Q E s:=by
 unfold noteFrame;simp only[hf];refine wpAny_bind (wpAny_field he hv h1 ?_);rw[if_neg (by decide)];exact qW Ih fr hf st new he HE hc hv (Array.getElem?_eq_some_iff.mp h1).1 h0 h
theorem ip (x:Bj B l e cls a0 fl d s.heap)(h:∀h',Bj B l e cls a0 .none d h'->s.heap.UpToSlots h'->Q () {s with heap:=h'}):wpAny M A (setFlight (.ref e) none) Q E s:=by
 obtain⟨o,vs,T,oT,ts,he,HE,hc,hv,h1,nT,Te,hT,Kf,h3⟩:=x.tr;have z3:3<ts.size:=(Array.getElem?_eq_some_iff.mp h3).1;have ot:∀b,b≠T->(s.heap.update T (Obj.mapFields (·.setIfInBounds 3 Value.none))).get? b=s.heap.get? b:=λb hb=>Heap.get?_update_other _ _ (Ne.symm hb)
 have nr:∀b ob,s.heap.get? b=some ob->(∀ws,ob.data≠.fields ws)->b≠T:=λb ob q hn z=>by rw[z,hT] at q;cases q;exact hn ts Kf
 unfold setFlight;refine wpAny_bind (wpAny_field he hv h1 ?_);rw[if_pos (by simp)];refine wpAny_setField hT Kf z3 (h _ ⟨λb ob q=>(ot b λz=>by rw[z,nT] at q;cases q).trans (x.st b ob q),x.new,x.fr.of_keeps λb ob q hn=>⟨ob,(ot b (nr b ob q hn)).trans q,rfl⟩,?_⟩ λb ob q hn=>⟨ob.slots,(ot b (nr b ob q hn)).trans q⟩);exact⟨o,vs,T,_,_,(ot e (Ne.symm Te)).trans he,HE,hc,hv,h1,nT,Te,Heap.get?_update_self _ hT (Obj.isFreed_of_fields (Obj.data_mapFields Kf _)),Obj.data_mapFields Kf _,by simp[z3]⟩
theorem Bj.out (x:Bj B (env::outer) e cls a0 fl d h):Bj B outer e cls a0 fl d h:=⟨x.st,x.new,x.fr.2.2,x.tr⟩
theorem rR (Ih:A.frames=some (env::outer))(hf:env.frame=some L)(x:Bj B (env::outer) e cls a0 .none d s.heap)
 (h:∀h',Bj B outer e cls a0 .none d h'->s.heap.UpToSlots h'->Q () {s with heap:=h'}):wpAny M A (leaving env (.ref e)) Q E s:=by
 unfold leaving;exact wpAny_bind (vK Ih hf x λg y up=>ip (s:={s with heap:=g}) y λg2 y2 Si=>h g2 y2.out (up.trans Si))
theorem tH (Ih:A.frames=some (env::outer))(fr:s.heap.FunFrames B (env::outer))(hf:env.frame=some L)(st:B.StaysIn s.heap)(new:B.get? e=none)
 (he:s.heap.get? e=some o)(HE:o.dict=d)(hc:o.cls=cls)(hv:o.data=.fields vs)(h1:vs[1]?=some .none)(h0:vs[0]?=some a0)
 (h:∀h',Bj B outer e cls a0 .none d h'->s.heap.UpToSlots h'->Q () {s with heap:=h'}):wpAny M A (leaving env (.ref e)) Q E s:=by
 unfold leaving;exact wpAny_bind (vy Ih fr hf st new he HE hc hv h1 h0 λg y up=>ip (s:={s with heap:=g}) y λg2 y2 Si=>h g2 y2.out (up.trans Si))
end
theorem br.there {o:HO}(x:br P w H h a o):∃ob,h.get? a=some ob:=by
 cases o with
 |lst xs=>obtain⟨_,_,_,_,e⟩:=x;exact⟨_,e⟩
 |tup xs=>obtain⟨_,_,_,ob,e,_⟩:=x;exact⟨_,e⟩
 |dK FQ=>obtain⟨_,_,_,_,o,_,_,e,_⟩:=x;exact⟨_,e⟩
 |dT FQ=>obtain⟨_,_,_,_,o,_,_,e,_⟩:=x;exact⟨_,e⟩
 |set S n=>obtain⟨o,_,_,_,e,_⟩:=x;exact⟨_,e⟩
 |ins C dx fs=>obtain⟨_,_,_,e,_⟩:=x;exact⟨_,e⟩
 |own y=>obtain⟨_,e⟩:=x;exact⟨_,e⟩
 |xd fs=>obtain⟨_,⟨_,_,_,e,_⟩,_⟩:=x;exact⟨_,e⟩
 |rng lo hi=>obtain⟨_,_,_,e⟩:=x;exact⟨_,e⟩
 |frz ob u=>obtain⟨e,_⟩:=x;exact⟨_,e⟩
 |tbl ps=>exact⟨_,(show h.get? a=some _ from x)⟩
 |met f y=>exact⟨_,(show h.get? a=some _ from x)⟩
 |ext φ=>obtain⟨_,⟨_,e⟩,_⟩:=x;exact⟨_,e⟩
structure yz (P:zO)(w:World)(l:List Env)(H₀:Hp)(h₀:Heap)(a:Addr)(cls:Value)(H:Hp)(h:Heap)(B:Heap)(a0:Value)(d:zR):Prop where
 fly:Bj B l a cls a0 .none d h
 un:Un (dz l) [] H₀ H h₀ h
 keep:∀b o,h₀.get? b=some o->H₀ b=none->b∉dz l->B.get? b=some o
 there:∀b o,h₀.get? b=some o->b∉dz l->∃o',B.get? b=some o'
 hok:eK P w H B
 new:H a=none
noncomputable def aO (P:zO)(w:World):Et:=λouter H₀ s₀ E e s'=>∃(a:Addr)(cls a0:Value)(B:Heap)(d:zR)(H:Hp),e=.ref a/\s'.os=s₀.os/\AllBare s'.gens/\yz P w outer H₀ s₀.heap a cls H s'.heap B a0 d/\E cls d H
variable {HK:Heap}{cls:Value}{d:zR}
section
variable {X:Cx}{pins:List (Addr×Obj)}{σ:St}{H H':Hp}{s s':Fp}{P:zO}{w:World}
theorem cM {base:Heap}(F:h.FunFrames base l)(hb:b∈dz l)(e:h.get? b=some o):∀vs,o.data≠.fields vs:=by
 obtain⟨_,o',e',d⟩:=F.mem hb;rw[e] at e'
 cases e'
 exact d
theorem qy {outer:List Env}{h' B:Heap}{e t:Addr}{args:xF}(I:Inv X pins σ H s)(hex:X.ex=[])(Jj:X.stack=X.env::X.outer)(hm:Heap.MadeExcOf s.heap h' e cls args)
 (hB:B=PySem.W.hideAll s.heap (dz X.stack))(hf:Bj B X.outer e cls (.ref t) .none d HK)(Lf:h'.UpToSlots HK):yz X.prog X.w X.outer X.H₀ X.s₀.heap e cls H HK B (.ref t) d:=by
 subst hB;have st:=hf.st;have M5:∀b o,s.heap.get? b=some o->b∉dz X.stack->(PySem.W.hideAll s.heap (dz X.stack)).get? b=some o:=λb o e n=>PySem.W.hideAll_get _ e n
 have old:∀b o,X.s₀.heap.get? b=some o->b∉dz X.outer->b∉dz X.stack:=λb o e n z=>by
  rcases List.mem_cons.mp (I.aao b z) with q|q
  ·exact absurd (Nat.lt_of_lt_of_le (Heap.lt_size e) I.ok.above) (by rw[q];exact Nat.lt_irrefl _)
  ·exact n q
 have base:Un (dz X.outer) [] X.H₀ H X.s₀.heap s.heap:=by
  have z:=I.base;rw[hex] at z;exact z
 refine⟨hf,⟨λb o e n hb _=>st b o (M5 b o (base.keep b o e n hb (by simp)) (old b o e hb)),λb o e n hb _=>?_,base.free,λb o e _=>?_,base.aam,base.aak,base.aas⟩,λb o e n hb=>M5 b o (base.keep b o e n hb (by simp)) (old b o e hb),λb o e hb=>?_,λb u e=>?_,?_⟩
 ·obtain⟨sl,e1⟩:=base.slot b o e n hb (by simp);obtain⟨Ie,e2⟩:=Lf b _ (hm.keeps b _ e1) (cM I.aat hb e1);exact⟨Ie,e2⟩
 ·obtain⟨o',e1⟩:=base.there b o e (by simp)
  by_cases hb:b∈dz X.outer
  ·obtain⟨Ie,e2⟩:=Lf b _ (hm.keeps b _ e1) (cM I.aat hb e1);exact⟨_,e2⟩
  ·exact⟨o',st b o' (M5 b o' e1 (old b o e hb))⟩
 ·obtain⟨o',e1⟩:=base.there b o e (by simp);exact⟨o',M5 b o' e1 (old b o e hb)⟩
 ·exact(I.hok b u e).aaO (λc v hc q=>M5 c v q λz=>by
   have n:=I.aaE c z
   rcases hc with hc|hc
   ·rw[hc,e] at n;cases n
   ·rw[n] at hc;cases hc) (λ_ q=>q) λ_ _ q=>q
 ·cases q:H e with
  |none=>rfl
  |some u =>
   obtain⟨ob,e1⟩:=(I.hok e u q).there;rw[hm.new] at e1
   cases e1
theorem pe {B:Heap}{a0:Value}(I:Inv X pins σ H s)(hex:X.ex=[])(F:yz X.prog X.w X.stack H s.heap a cls H' s'.heap B a0 d)
 (hf:Bj B X.outer a cls a0 .none d HK)(Lf:s'.heap.UpToSlots HK):yz X.prog X.w X.outer X.H₀ X.s₀.heap a cls H' HK B a0 d:=by
 have st:=hf.st
 have sub:∀b,b∈dz X.outer->b∈dz X.stack:=λb hb=>by
  rcases I.ok.stk with z|⟨z,Ih⟩
  ·rw[z];exact hb
  ·rw[z];unfold dz;rw[List.filterMap_cons,Ih];exact List.mem_cons_of_mem _ hb
 have old:∀b o,X.s₀.heap.get? b=some o->b∉dz X.outer->b∉dz X.stack:=λb o e n z=>by
  rcases List.mem_cons.mp (I.aao b z) with q|q
  ·exact absurd (Nat.lt_of_lt_of_le (Heap.lt_size e) I.ok.above) (by rw[q];exact Nat.lt_irrefl _)
  ·exact n q
 have base:Un (dz X.outer) [] X.H₀ H X.s₀.heap s.heap:=by
  have z:=I.base;rw[hex] at z;exact z
 have kB:∀b o,X.s₀.heap.get? b=some o->X.H₀ b=none->b∉dz X.outer->B.get? b=some o:=λb o e n hb =>
  F.keep b o (base.keep b o e n hb (by simp)) (base.free b o e n (by simp)) (old b o e hb)
 have tB:∀b o,X.s₀.heap.get? b=some o->b∉dz X.outer->∃o',B.get? b=some o':=λb o e hb=>by
  obtain⟨o',e1⟩:=base.there b o e (by simp);exact F.there b o' e1 (old b o e hb)
 have Mp:∀b o,s.heap.get? b=some o->H b=none->b∈dz X.outer->∃sl,HK.get? b=some {o with slots:=sl}:=λb o e n hb=>by
  obtain⟨sl,e1⟩:=F.un.slot b o e n (sub b hb) (by simp);obtain⟨Ie,e2⟩:=Lf b _ e1 (λvs q=>cM I.aat hb e vs q);exact⟨Ie,e2⟩
 refine⟨hf,⟨λb o e n hb _=>st b o (kB b o e n hb),λb o e n hb _=>?_,λb o e n _=>?_,λb o e _=>?_,λb xs e=>F.un.aam b xs (base.aam b xs e),λb o xs e=>F.un.aak b o xs (base.aak b o xs e),λb ps e=>?_⟩,kB,tB,F.hok,F.new⟩
 ·obtain⟨sl,e1⟩:=base.slot b o e n hb (by simp);obtain⟨Ie,e2⟩:=Mp b _ e1 (base.free b o e n (by simp)) hb;exact⟨Ie,e2⟩
 ·obtain⟨o',e1⟩:=base.there b o e (by simp);exact F.un.free b o' e1 (base.free b o e n (by simp)) (by simp)
 ·by_cases hb:b∈dz X.outer
  ·obtain⟨o',e1⟩:=base.there b o e (by simp);have n:H b=none:=I.aaE b (sub b hb);obtain⟨sl,e2⟩:=Mp b o' e1 n hb;exact⟨_,e2⟩
  ·obtain⟨o',e1⟩:=tB b o e hb;exact⟨o',st b o' e1⟩
 ·obtain⟨m1,e1⟩:=base.aas b ps e;obtain⟨m2,e2⟩:=F.un.aas b _ e1;exact⟨m1++m2,by rw[e2,Array.append_assoc]⟩
theorem jC {B:Heap}{a0:Value}{tk:Nat}(I:Inv X pins σ H s)(ho:s'.os=s.os)(hg:AllBare s'.gens)(F:yz X.prog X.w X.stack H s.heap a cls H' s'.heap B a0 d)
 (hf:Bj B X.stack a cls a0 fl d HK)(Lf:s'.heap.UpToSlots HK):Inv X pins σ H' {s' with heap:=HK,toks:=tk}:=by
 have st:=hf.st;refine I.aa7 (s':={s' with heap:=HK,toks:=tk}) (ch:=[]) ho ⟨λb o e n hb _=>st b o (F.keep b o e n hb),λb o e n hb _=>?_,F.un.free,λb o e _=>?_,F.un.aam,F.un.aak,F.un.aas⟩ (F.hok.kept st) hg λb z=>absurd z (by simp)
 ·obtain⟨sl,e1⟩:=F.un.slot b o e n hb (by simp);obtain⟨Ie,e2⟩:=Lf b _ e1 (λvs q=>cM I.stack hb e vs q);exact⟨Ie,e2⟩
 ·by_cases hb:b∈dz X.stack
  ·obtain⟨sl,e1⟩:=F.un.slot b o e (I.aaE b hb) hb (by simp);obtain⟨Ie,e2⟩:=Lf b _ e1 (λvs q=>cM I.stack hb e vs q);exact⟨_,e2⟩
  ·obtain⟨o',e1⟩:=F.there b o e hb;exact⟨o',st b o' e1⟩
end
theorem A2 {K:PySem.W.Frag}{cd:ClassData}(h:PySem.W.clsIn K C=some cd):∃c d s,K.lookup C=some ⟨c,d,.cls cd,s⟩:=by
 unfold PySem.W.clsIn at h
 cases ho:K.lookup C with
 |none=>rw[ho] at h;cases h
 |some o =>
  rw[ho] at h;obtain⟨c,d,x,s⟩:=o
  cases x <;> cases h
  exact⟨_,_,_,rfl⟩
theorem DW {α:Type}{l:List α}(h:l.length=6):∃a b c d e f,l=[a,b,c,d,e,f]:=by
 obtain⟨a,l,rfl⟩:=List.exists_cons_of_length_eq_add_one h;obtain⟨b,l,rfl⟩:=List.exists_cons_of_length_eq_add_one (Nat.succ.inj h);obtain⟨c,l,rfl⟩:=List.exists_cons_of_length_eq_add_one (Nat.succ.inj (Nat.succ.inj h));obtain⟨d,l,rfl⟩:=List.exists_cons_of_length_eq_add_one (Nat.succ.inj (Nat.succ.inj (Nat.succ.inj h)));obtain⟨e,l,rfl⟩:=List.exists_cons_of_length_eq_add_one (Nat.succ.inj (Nat.succ.inj (Nat.succ.inj (Nat.succ.inj h))));obtain⟨f,rfl⟩:=List.length_eq_one_iff.mp (Nat.succ.inj (Nat.succ.inj (Nat.succ.inj (Nat.succ.inj (Nat.succ.inj h)))));exact⟨a,b,c,d,e,f,rfl⟩
theorem yA {K:PySem.W.Frag}{K3:xF}{newId:String}(X:K.In h)(q:og K C K3 newId=true):
 ∃bm N nm qn bs hd sn sub ab col dd k0 k1 k2 k3 k5 mN,h.get? C=some (excClassObj nm qn C N bs bm hd sn sub ab col dd k0 k1 k2 k3 k5 newId)/\h.Ns N mN/\mN "__init__"=none/\OwnTail h K3 bm:=by
 have q1:=Bool.and_eq_true_iff.mp q;obtain⟨cd,hc,q2⟩:=(Option.any_eq_true _ _).mp q1.2;obtain⟨c,dd,sl,ho⟩:=A2 hc;have q3:=Bool.and_eq_true_iff.mp q2;have q4:=Bool.and_eq_true_iff.mp q3.2;have q5:=Bool.and_eq_true_iff.mp q4.2;have q6:=Bool.and_eq_true_iff.mp q5.2
 have e1:(c == .type "type"&&(sl.size==6&&sl.toList[4]?==some (some (.builtin newId))))=true:=by
  have z:=q1.1;rw[ho] at z;exact z
 have e2:=Bool.and_eq_true_iff.mp e1;have e3:=Bool.and_eq_true_iff.mp e2.2;obtain⟨k0,k1,k2,k3,k4,k5,e⟩:=DW (l:=sl.toList) (eq_of_beq e3.1)
 have e4:k4=some (.builtin newId):=by
  have z:=eq_of_beq e3.2;rw[e] at z;exact Option.some.inj z
 have e5:sl = #[k0,k1,k2,k3,some (.builtin newId),k5]:=Array.toList_inj.mp (by rw[e,e4])
 have e6:cd.mro=.ref C::cd.mro.tail:=by
  obtain⟨r,z⟩:=List.head?_eq_some_iff.mp (eq_of_beq q3.1);rw[z];rfl
 have e7:cd.hasDel=false:=by simpa using q4.1
 refine⟨cd.mro.tail,cd.ns,cd.name,cd.qualname,cd.bases,cd.hasDict,cd.slotNames,cd.subclasses,cd.abstract,cd.collection,dd,k0,k1,k2,k3,k5,_,(X _ _ ho).trans ?_,.of_isNs (PySem.W.isNs_of_in X q6.1),PySem.W.nsMap_none_of_in X q6.1 (eq_of_beq q6.2),PySem.W.tail_of_in X q5.1⟩;rw[e5,eq_of_beq e2.1];show some (Obj.mk _ _ (.cls cd) _)=some (Obj.mk _ _ (.cls ⟨_,_,_,_,_,_,_,_,_,_,false⟩) _);rw[<-e6,<-e7]
noncomputable def vf (X:Cx)(E:St->XK):Prop:=∀(pins:List (Addr×Obj))(σ:St)(H:Hp)(s:Fp)(h':Heap)(e:Addr)(cls:Value)(args:xF),Inv X pins σ H s->Heap.MadeExcOf s.heap h' e cls args->E σ cls none H->X.xe (.ref e) {s with heap:=h'}
noncomputable def AR (C:Addr)(E:St->XK)(t:TA):TS:=λ_ σ H=>t σ H λvs H1=>vs.length<=sizeLine/\E σ (.ref C) none H1
section
variable {X:Cx}{E:St->XK}{x:Str}{C:Addr}{B newId Lg:String}{K3:xF}{np Gj pos:Pos}{e:Expr}{es:wW}{t:TA}
theorem kd (FB:ExcBaseFacts B newId Lg K3)(q:og X.K C K3 newId=true)(hc:X.calm=true)(hR:vf X E)(hg:Gl X x)(hm:X.mg x=some (.ref C))(ha:PA X (e::es) t)
 (he:starEach (e::es) X.env=(false,eval e X.env):: starEach es X.env:=by rfl)(HA:(backTo Gj (starEach es X.env)).any (·.1)=false:=by rfl)(hd:(x==("__debug__":Str))=false:=by decide):
 PS X (.Raise (some (.Call (.Name x np) (e::es) [] Gj)) none pos) (AR C E t):=by
 intro pins s σ H D I h;obtain⟨bm,N,nm,qn,bs,hdct,sn,sub,ab,col,dd,k0,k1,k2,k3,k5,mN,hC,hN,YQ,T⟩:=yA I.ok.mod.kin q
 refine wpAny_Raise_call_subT (C:=C) (nm:=nm) (q:=qn) (N:=N) (bs:=bs) (bm:=bm) (hdct:=hdct) (sn:=sn) (sub:=sub) (ab:=ab) (col:=col) (dd:=dd) (k0:=k0) (k1:=k1) (k2:=k2) (k3:=k3) (k5:=k5)
  FB (mN:=mN) (T.hasType FB.hasBase) (I.ok.hd hc) (by rw[he];show(false || (backTo Gj (starEach es X.env)).any (·.1))=false;rw[HA];rfl) YQ (fj I hg hm ⟨rfl,?_⟩ hd)
 have z:=ha Gj pins s σ H _ I h;rw[he] at z |-;refine Calls.evalArgs_plain (wpAny_mono z (λus s₂ z'=>?_) λ_ _ y=>y);obtain⟨vs,H2,I2,rv,hl,hE⟩:=z';exact⟨rfl,by rw[<-rv.length];exact hl,I2.bk _ _ hC,hN.keeps I2.bk,T.keeps I2.bk,λh' e' M6=>hR pins σ H2 s₂ h' e' _ _ I2 M6 hE⟩
end
section
variable {P:zO}{w:World}{K:PySem.W.Frag}{mg:yN}{base:Heap}{N:nO}{qual:Str}{scope:Scope}{f:Addr}{cd:Value}{A:Around}{outer:List Env}{s:Fp}{H:Hp}{E:XK}
theorem gO:vf (fk (aO P w) P w K mg base N qual scope f cd A outer s H E) λ_=>E:=by
 intro pins σ H1 s1 h' e cls args I hm hE;have Jj:(fk (aO P w) P w K mg base N qual scope f cd A outer s H E).stack=(fk (aO P w) P w K mg base N qual scope f cd A outer s H E).env::outer:=rfl;have hl:=I.stack;obtain⟨t,he,htn,ht⟩:=hm.there;have hB:∀b o,(PySem.W.hideAll s1.heap (dz (fk (aO P w) P w K mg base N qual scope f cd A outer s H E).stack)).get? b=some o->s1.heap.get? b=some o:=λb o q=>PySem.W.of_hideAll _ q
 have nB:(PySem.W.hideAll s1.heap (dz (fk (aO P w) P w K mg base N qual scope f cd A outer s H E).stack)).get? e=none:=by
  cases q:(PySem.W.hideAll s1.heap (dz (fk (aO P w) P w K mg base N qual scope f cd A outer s H E).stack)).get? e with
  |none=>rfl
  |some o=>have z:=hB _ _ q;rw[hm.new] at z;cases z
 have YR:=PySem.W.funFrames_hide hl λenv he a ha=>List.mem_filterMap.mpr ⟨env,he,ha⟩
 refine tH (B:=PySem.W.hideAll s1.heap (dz (fk (aO P w) P w K mg base N qual scope f cd A outer s H E).stack)) (s:={s1 with heap:=h'}) (d:=none) (cls:=cls) (a0:=.ref t) I.ok.frames (YR.of_keeps λb o q _=>⟨o,hm.keeps b o q,rfl⟩) rfl
  (λb o q=>hm.keeps b o (hB b o q)) nB he rfl rfl rfl rfl rfl λHK x1 x4=>?_
 exact⟨e,cls,.ref t,_,none,H1,rfl,I.os,I.bare,qy (outer:=outer) I rfl rfl hm rfl x1 x4,hE⟩
theorem cD:eJ (aO P w) (fk (aO P w) P w K mg base N qual scope f cd A outer s H E) E:=by
 intro pins σ H1 s1 e s' I hx;obtain⟨a,cls,a0,B,d,H',rfl,ho,hg,F,hE⟩:=hx;refine rR (L:=s.heap.objs.size) I.ok.frames rfl F.fly λHK x1 x2=>?_;exact⟨a,cls,a0,B,d,H',rfl,ho.trans I.os,hg,pe I rfl F x1 x2,hE⟩
end
theorem af {X:Cx}:eJ (aO P w) X λ_ _ _=>False:=by
 intro pins σ H1 s1 e s' I hx;obtain⟨a,cls,a0,B,d,H',_,_,_,_,hE⟩:=hx;exact hE.elim
noncomputable def lD (a:Addr)(cls:Value):HO:=.ext λh=>∃o vs,h.get? a=some o/\o.cls=cls/\o.data=.fields vs
theorem yi (e:h.get? a=some o)(hc:o.cls=cls)(hd:o.data=.fields vs):br P w H h a (lD a cls):=
 ⟨⟨o,vs,e,hc,hd⟩,⟨o,e⟩,λh1 h2 ⟨o,vs,e,hc,hd⟩ k=>⟨o,vs,k o e,hc,hd⟩⟩
theorem rO (k:eK P w H h)(e:H a=some (lD a cls)):∃o vs,h.get? a=some o/\o.cls=cls/\o.data=.fields vs:=(k a _ e).1
noncomputable def xw (vs:va):Prop:=∃t:Addr,vs = #[.ref t,.none,.none,.none,.bool false,.none]
noncomputable def Ew (a:Addr)(cls:Value)(dx:Addr)(fr:Bool):HO:=.ext λh=>∃o vs,h.get? a=some o/\o.cls=cls/\o.data=.fields vs/\o.dict=some dx/\(fr=true->xw vs)
noncomputable def zP (a:Addr)(cls:Value):Option Addr->HO
 |none=>lD a cls
 |some dx=>Ew a cls dx false
theorem yb (e:h.get? a=some o)(hc:o.cls=cls)(hd:o.data=.fields vs)(hx:o.dict=d):br P w H h a (zP a cls d):=by
 cases d with
 |none=>exact yi e hc hd
 |some dx=>exact⟨⟨o,vs,e,hc,hd,hx,λz=>by cases z⟩,⟨o,e⟩,λh1 h2 ⟨o,vs,e,hc,hd,hx,z⟩ k=>⟨o,vs,k o e,hc,hd,hx,z⟩⟩
theorem Bj.first {B:Heap}{e:Addr}{a0:Value}(x:Bj B l e cls a0 fl d h):∃oe vs,h.get? e=some oe/\oe.cls=cls/\oe.data=.fields vs/\oe.dict=d :=
 let⟨o,vs,_,_,_,h1,h2,h3,h4,_⟩:=x.tr;⟨o,vs,h1,h3.1,h4,h2⟩
noncomputable def Ce (X:Cx)(pins:List (Addr×Obj))(E:St->XK):Value->Shared->Prop:=λe s'=>∃σ H s,Inv X pins σ H s/\aO X.prog X.w X.stack H s (E σ) e s'
noncomputable abbrev Cx.tr (X:Cx)(pins:List (Addr×Obj))(E:St->XK):Cx:={X with pn:=X.pn++pins,xe:=Ce X pins E}
noncomputable abbrev Cx.hd (X:Cx)(a:Addr):Cx:={X with A:=X.A.mark (some (.ref a)),calm:=false,xe:=λ_ _=>False}
section
variable {X:Cx}{pins pins':List (Addr×Obj)}{σ:St}{H:Hp}{s:Fp}{E:St->XK}{a:Addr}
theorem Av (I:Inv X pins σ H s):Inv (X.tr pins E) [] σ H s :=
 ⟨⟨I.ok.mod,I.ok.kind,I.ok.glob,I.ok.blt,I.ok.above,I.ok.inj,I.ok.has,I.ok.cab,I.ok.hd,I.ok.frames,I.ok.stk,I.ok.exf,I.ok.bs,I.ok.bsz,I.ok.aa6,I.ok.abg,I.ok.aat,I.ok.frf⟩,I.os,I.bare,I.base,I.loc,I.cell,I.free,I.aag,λp hp=>I.pin p (by
   have z:p∈(X.pn++pins)++[]:=hp;rw[List.append_nil] at z
   exact z),I.hok,I.len⟩
theorem fZ (I:Inv (X.tr pins E) pins' σ H s):Inv X pins σ H s :=
 ⟨⟨I.ok.mod,I.ok.kind,I.ok.glob,I.ok.blt,I.ok.above,I.ok.inj,I.ok.has,I.ok.cab,I.ok.hd,I.ok.frames,I.ok.stk,I.ok.exf,I.ok.bs,I.ok.bsz,I.ok.aa6,I.ok.abg,I.ok.aat,I.ok.frf⟩,I.os,I.bare,I.base,I.loc,I.cell,I.free,I.aag,λp hp=>I.pin p (List.mem_append_left _ hp),I.hok,I.len⟩
theorem wB (I:Inv X pins σ H s):Inv (X.hd a) pins σ H s :=
 ⟨⟨I.ok.mod,I.ok.kind,I.ok.glob,I.ok.blt,I.ok.above,I.ok.inj,I.ok.has,I.ok.cab,(λz=>absurd (show false=true from z) (by decide)),I.ok.frames,I.ok.stk,I.ok.exf,I.ok.bs,I.ok.bsz,I.ok.aa6,I.ok.abg,I.ok.aat,I.ok.frf⟩,I.os,I.bare,I.base,I.loc,I.cell,I.free,I.aag,I.pin,I.hok,I.len⟩
theorem iG (ok:X.Ok)(I:Inv (X.hd a) pins σ H s):Inv X pins σ H s :=
 ⟨ok,I.os,I.bare,I.base,I.loc,I.cell,I.free,I.aag,I.pin,I.hok,I.len⟩
theorem jz {D:Ends}{f:Flow}{s':Fp}(h:SP (X.tr pins E) [] D f s'):SP X pins D f s':=by
 cases f with
 |next=>obtain⟨σ',H',I,q⟩:=h;exact⟨σ',H',fZ I,q⟩
 |brk=>obtain⟨σ',H',I,q⟩:=h;exact⟨σ',H',fZ I,q⟩
 |cont=>obtain⟨σ',H',I,q⟩:=h;exact⟨σ',H',fZ I,q⟩
 |ret u=>obtain⟨v,σ',H',I,r,q⟩:=h;exact⟨v,σ',H',fZ I,r,q⟩
theorem pR:∀(pins':List (Addr×Obj))(σ:St)(H:Hp)(s:Fp)(e:Value)(s':Fp),Inv (X.tr pins E) pins' σ H s->aO X.prog X.w X.stack H s (E σ) e s'->(X.tr pins E).xe e s':=λpins' σ H s e s' I hx=>⟨σ,H,s,fZ I,hx⟩
noncomputable def Dw (K:PySem.W.Frag)(c:Value)(i:Nat)(ts:TS)(D:Ends):St->XK:=λσ cls d H'=>PySem.W.exmOne K cls c=some true/\∀a,H' a=none →
 ts {nx:=λσ' H2=>D.nx (σ'.set i none) H2,rt:=D.rt,bk:=λσ' H2=>D.bk (σ'.set i none) H2,ct:=λσ' H2=>D.ct (σ'.set i none) H2} (σ.set i (some (.ref a))) (upd H' a (zP a cls d))
noncomputable def EA (K:PySem.W.Frag)(c:Value)(i:Nat)(tb:(St->XK)->TS)(ts:TS):TS:=λD σ H=>tb (Dw K c i ts D) D σ H
theorem gC {M:Model}{E':oP}{A:Around}{i:Nat}{n:Str}{Q:Unit->Shared->Prop}(I:Inv X pins σ H s)(hN:X.N.Nodup)(hi:X.N[i]?=some n)(hl:X.env.scope.names.lookup n=some .local)
 (h:∀s',Inv X pins (σ.set i none) H s'->Q () s'):wpAny M A (do bindName X.env n .none;unbindBehindTheSuite X.env n pos) Q E' s:=by
 obtain⟨m,hn,Sj⟩:=id I.loc;refine wpAny_nameGoes_keeps hl hn (by rw[I.ok.kind];rfl) λh' v K5 hs=>h _ ?_;have nL:∀b o,X.s₀.heap.get? b=some o->b≠X.env.locals:=λb o e=>Nat.ne_of_lt (Nat.lt_of_lt_of_le (Heap.lt_size e) I.ok.above);refine⟨I.ok,I.os,I.bare,⟨λb o e n hb hx=>(hs.2 b (nL b o e)).trans (I.base.keep b o e n hb hx),λb o e n hb hx=>?_,I.base.free,λb o e hx=>?_,I.base.aam,I.base.aak,I.base.aas⟩,⟨_,K5,λj y w' e1 e2 e3=>?_⟩,λy c e=>?_,I.free,I.aag,λp hp=>?_,λb u e=>?_,by simpa using I.len⟩
 ·obtain⟨sl,e1⟩:=I.base.slot b o e n hb hx;exact⟨sl,(hs.2 b (nL b o e)).trans e1⟩
 ·obtain⟨o',e1⟩:=I.base.there b o e hx;exact⟨o',(hs.2 b (nL b o e)).trans e1⟩
 ·have hj:j≠i:=λz=>by
   subst z
   by_cases FY:j<σ.length
   ·rw[List.getElem?_set_self FY] at e2;cases e2
   ·rw[List.getElem?_eq_none (by simpa using FY)] at e2;cases e2
  rw[List.getElem?_set_ne (Ne.symm hj)] at e2;obtain⟨u,r,q⟩:=Sj j y w' e1 e2 e3;refine⟨u,r,?_⟩
  rcases q with⟨k,e⟩|⟨k,c,e,z⟩
  ·refine .inl ⟨k,?_⟩;have YS:y≠n:=λe=>hj (jH hN e1 (e▸hi));show(if y=n then v else m y)=some u;rw[if_neg YS];exact e
  ·exact .inr ⟨k,c,e,z.sameBut hs (I.cne y c e)⟩
 ·obtain⟨w',z⟩:=I.cell y c e;exact⟨w',z.sameBut hs (I.cne y c e)⟩
 ·obtain⟨e,n',ne,nf,d⟩:=I.pin p hp;exact⟨(hs.2 p.1 ne).trans e,n',ne,nf,d⟩
 ·refine(I.hok b u e).aaO (λc w' hc q=>(hs.2 c ?_).trans q) (λ_ q=>q) λ_ _ q=>q;rintro rfl
  rcases hc with rfl|hc
  ·rw[I.free] at e;cases e
  ·rw[I.free] at hc;cases hc
theorem AZ {n:Str}{i:Nat}{np JB:Pos}{body Kg:uH}{b₀:Stmt}{tb:(St->XK)->TS}{ts:TS}(Jj:X.stack=X.env::X.outer)(Ih:X.env.frame=some X.env.locals)(hN:X.N.Nodup)(hi:X.N[i]?=some n)
 (hl:X.env.scope.names.lookup n=some .local)(hg:Gl X x)(hm:X.mg x=some (.ref C))(hb:∀pins E,hV (X.tr pins E) body (tb E))(hs:∀a,hV (X.hd a) (b₀::Kg) ts)(hd:(x==("__debug__":Str))=false:=by decide):
 PS X (.Try body [.ExceptHandler (some (.Name x np)) (some n) (b₀::Kg) JB] [] [] pos) (EA X.K (.ref C) i tb ts):=by
 intro pins s σ H D I h;refine wpAny_Try_except (wpAny_mono (hb pins _ [] s σ H D (Av I) h) (λf s1 q=>?_) λe s1 q=>?_)
 ·cases f with
  |next=>exact wpAny_execs_nil (jz q)
  |ret v=>exact jz q
  |brk=>exact jz q
  |cont=>exact jz q
 ·obtain⟨σ1,H1,s0,I1,a,cls,a0,B,d,H2,rfl,ho,WD,F,hx,hw⟩:=q
  have YT:X.A.frames=some (X.env::X.outer):=by rw[I.ok.frames,Jj]
  have fl:=F.fly;rw[Jj] at fl;refine vK YT Ih fl λh4 held WE=>ip (s:={s1 with heap:=h4}) held λh5 M7 WG=>?_
  have Sk:Bj B X.stack a cls a0 .none d h5:=by rw[Jj];exact M7
  have I5:Inv X pins σ1 H2 {s1 with heap:=h5}:=jC (tk:=s1.toks) I1 ho WD F Sk (WE.trans WG);obtain⟨ob,_,Sl,Sm,_,_⟩:=M7.first;have YU:Inv (X.hd a) pins σ1 H2 {s1 with heap:=h5}:=wB I5;refine wpAny_handleBy_cons (codeAny_handlers_test (fj YU hg hm ?_ hd)) (by intro q;cases q);have LT:PySem.W.Looks (model X.prog X.w) h5 (typeOf (.ref a)) cls:=Sm▸(PySem.W.Looks.ld Sl).andThen .now;refine(PySem.W.exm_one (M:=model X.prog X.w) I5.kIn LT hx) _ _ _ _ (λ_ _ e=>e) ?_;refine codeAny_handlers_suite_as ?_;refine ip (s:={s1 with heap:=h5}) M7 λh6 WH YV=>?_
  have JC:Bj B X.stack a cls a0 .none d h6:=by rw[Jj];exact WH
  have I6:Inv X pins σ1 H2 {s1 with heap:=h6}:=jC (tk:=s1.toks) I1 ho WD F JC ((WE.trans WG).trans YV);obtain⟨oe,vs,Iv,Sn,JD,So⟩:=WH.first
  have I7:Inv X pins σ1 (upd H2 a (zP a cls d)) {s1 with heap:=h6}:=by
   have nB:X.s₀.heap.get? a=none\/True:=.inr trivial;refine⟨I6.ok,I6.os,I6.bare,?_,I6.loc,I6.cell,?_,?_,?_,c7 I6.hok F.new (yb Iv Sn JD So),I6.len⟩
   ·refine⟨I6.base.keep,I6.base.slot,λb o e n Rj=>?_,I6.base.there,λb xs e=>?_,λb o u e=>?_,λb ps e=>?_⟩
    ·have Gw:b≠a:=λz=>by
      subst z;have e1:=I1.base.there b o e Rj;obtain⟨o1,e1⟩:=e1
      by_cases WI:b∈dz X.stack
      ·have:=(JC.fr.mem WI);obtain⟨_,o2,e2,d2⟩:=this;rw[Iv] at e2
       cases e2
       exact d2 vs JD
      ·obtain⟨o2,e2⟩:=F.there b o1 e1 WI;rw[JC.new] at e2
       cases e2
     rw[ai Gw];exact I6.base.free b o e n Rj
    ·rw[ai (ar (I6.base.aam b xs e) F.new)];exact I6.base.aam b xs e
    ·rw[ai (ar (I6.base.aak b o u e) F.new)];exact I6.base.aak b o u e
    ·obtain⟨m,q⟩:=I6.base.aas b ps e;exact⟨m,by rw[ai (ar q F.new)];exact q⟩
   ·have Gw:X.env.locals≠a:=λz=>by
     obtain⟨m,⟨o,es,ep,e,d,_⟩,_⟩:=I6.loc;rw[z,Iv] at e
     cases e
     rw[JD] at d
     cases d
    rw[ai Gw];exact I6.free
   ·intro y c e
    have Gw:c≠a:=λz=>by
     obtain⟨v,o,e1,d⟩:=I6.cell y c e;rw[z,Iv] at e1
     cases e1
     rw[JD] at d
     cases d
    rw[ai Gw];exact I6.aag y c e
   ·intro p hp;obtain⟨e,n',ne,nf,d⟩:=I6.pin p hp;refine⟨e,?_,ne,nf,d⟩
    have Gw:p.1≠a:=λz=>by
     obtain⟨e1,n1,_,nf1,_⟩:=I1.pin p hp
     have Ro:p.1∉dz X.stack:=λq=>by
      rcases List.mem_cons.mp (I1.aao _ q) with w|w
      ·exact ne w
      ·exact nf w
     obtain⟨o2,e2⟩:=F.there p.1 _ e1 Ro;rw[z,JC.new] at e2
     cases e2
    rw[ai Gw];exact n'
  refine eR (M:=model X.prog X.w) I7 hN hi (.inl hl) (show aD (.ref a) (.ref a) from rfl) (λs8 I8=>?_) (.inr hl);refine wpAny_mono (hs a pins s8 _ _ _ (wB I8) (hw a F.new)) (λf s9 q=>?_) λ_ _ z=>False.elim z
  cases f with
  |next =>
   obtain⟨σ9,H9,I9,q9⟩:=q;exact gC (iG I.ok I9) hN hi hl λM8 JE=>⟨_,_,JE,q9⟩
  |brk =>
   obtain⟨σ9,H9,I9,q9⟩:=q;exact gC (iG I.ok I9) hN hi hl λM8 JE=>⟨_,_,JE,q9⟩
  |cont =>
   obtain⟨σ9,H9,I9,q9⟩:=q;exact gC (iG I.ok I9) hN hi hl λM8 JE=>⟨_,_,JE,q9⟩
  |ret u =>
   obtain⟨v,σ9,H9,I9,r9,q9⟩:=q;exact gC (iG I.ok I9) hN hi hl λM8 JE=>⟨v,_,_,JE,r9,q9⟩
end
structure Ax (K:Frag)(C:Addr):Prop where
 cls:(clsIn K C).isSome=true
 ga:findIn K (.ref C) "__getattribute__"=some (some (.builtin "BaseException.__getattribute__"))
 gx:findIn K (.ref C) "__getattr__"=some none
 ca:findIn K (.ref C) "__class__"=some (some (.builtin "object.__class__"))
 ob:mroIn K C (.type "object")=some true
 be:mroIn K C (.type "BaseException")=some true
section
variable {prog:zO}{w:World}{A:Around}{E:oP}{K:Frag}{x C:Addr}{ox:Obj}
theorem uQ {M:Model}{Kh:Value}{Q:Unit->Shared->Prop}(X:K.In s.heap)(k:Ax K C)(e:s.heap.get? x=some ox)(hc:ox.cls=.ref C)(hq:Q () s):
 wpAny M A (checkBuiltinCall "BaseException.__getattribute__" ⟨[.ref x,Kh],[]⟩) Q E s:=by
 obtain⟨hh,g,d,t,os⟩:=s;have L0:Looks M hh (typeOf (.ref x)) (.ref C):=hc▸(Looks.ld e).andThen .now;have L5:=looks_mroIn (M:=M) X k.be
 have hk:builtinKind "BaseException.__getattribute__"=some .slot:=by decide +kernel
 have Lh:splitId "BaseException.__getattribute__"=some ("BaseException","__getattribute__"):=by decide +kernel
 have ha:=F.args_bexc_ga (.ref x) Kh;simp only[checkBuiltinCall,hk,Lh];unfold isInstance
 repeat (any_goals (first|assumption|lk|wp_step))
open Builtin Builtin.ObjectAttr Builtin.Getset_descriptor in
theorem lG {R:Result->Shared->Prop}{tp:Value}(X:K.In s.heap)(k:Ax K C)(e:s.heap.get? x=some ox)(hc:ox.cls=.ref C)(h:R (.ok (.ret (.ref C))) s):
 codeAny (model prog w) A (.call (.builtin "getset_descriptor.__get__") ⟨[.builtin "object.__class__",.ref x,tp],[]⟩) R s:=by
 obtain⟨hh,g,dr,t,os⟩:=s;have L0:Looks (model prog w) hh (typeOf (.ref x)) (.ref C):=hc▸(Looks.ld e).andThen .now;have L1:=looks_mroIn (M:=model prog w) X k.ob;refine codeAny_call_builtin KF.slot_gs.plain KF.entry_gs (KF.slot_gs.check _ _ _ _ _ _ _ _ KF.type_class (KF.args_gs _ _ _) ?_);unfold Builtin.«getset_descriptor.__get__» descrGet;rw[dga_obj];refine wpAny_bind (wpAny_pure ?_);unfold descrGetter descrCheckInstance descrNameAndClass isInstance;simp only[KF.owner_class]
 repeat lk
 refine⟨Code.quiet_builtin _ (by decide +kernel),codeAny_builtin KF.entry_class ?_⟩;unfold Builtin.«object.__class__» shownTypeOf
 repeat lk
 exact h
theorem ju {tk:Tok}{Q:PySem.Fin->Shared->Prop}(X:K.In s.heap)(k:Ax K C)(e:s.heap.get? x=some ox)(hc:ox.cls=.ref C)(hq:Q (.done (.ret (.ref C))) s):
 wpAny (model prog w) A (Builtin.«object.__getattribute__» ⟨[.ref x,.str "__class__" tk],[]⟩) Q E s:=by
 obtain⟨hh,g,d,t,os⟩:=s;have L0:Looks (model prog w) hh (typeOf (.ref x)) (.ref C):=hc▸(Looks.ld e).andThen .now;have L3:=looks_findIn (M:=model prog w) X k.ca;have f5:=F.typeOf_object_class;have f6:=F.slot_gs_get.lookup;have f7:=F.slot_gs_set.lookup
 repeat (any_goals (first|assumption|(with_reducible refine Looks.at (by assumption) ?_)|(with_reducible refine Looks.at L0 ?_)|wp_step))
 refine lG X k e hc ?_
 repeat (any_goals (first|assumption|wp_step))
theorem mZ {tk:Tok}{fill expr:Bool}{Q:oP}{s:Fp}(X:K.In s.heap)(k:Ax K C)(e:s.heap.get? x=some ox)(hc:ox.cls=.ref C)(hq:Q (.ref C) s):
 wpAny (model prog w) A (getAttrBy (.ref x) (.str "__class__" tk) fill expr) Q E s:=by
 obtain⟨hh,g,d,t,os⟩:=s;have L0:Looks (model prog w) hh (typeOf (.ref x)) (.ref C):=hc▸(Looks.ld e).andThen .now;have L1:=looks_findIn (M:=model prog w) X k.ga;have L2:=looks_findIn (M:=model prog w) X k.gx;have f3:=F.attr_ValueError.ga.bind (.ref x)
 have hx0:(expr&&onTheHeap (Value.builtin "BaseException.__getattribute__"))=false:=by cases expr <;> rfl
 have HW:(Value.builtin "BaseException.__getattribute__"==Value.builtin "object.__getattribute__")=false:=by decide +kernel
 have hx1:(onTheHeap (Value.ref C)&&Value.builtin "BaseException.__getattribute__"==Value.builtin "object.__getattribute__")=false:=by rw[HW];rfl
 repeat (any_goals (first|assumption|(with_reducible refine Looks.at (by assumption) ?_)|(with_reducible refine Looks.at L0 ?_)|wp_step))
 refine codeAny_call_builtin F.attr_ValueError.ga.plain F.entry_bexc_ga (uQ X k e hc (ju X k e hc ?_))
 repeat (any_goals (first|assumption|wp_step))
theorem uk {Q:Option Value->Shared->Prop}(X:K.In s.heap)(k:Ax K C)(e:s.heap.get? x=some ox)(hc:ox.cls=.ref C)(hq:Q (some (.ref C)) {s with toks:=s.toks+1}):
 wpAny (model prog w) A (getAttr? (.ref x) "__class__") Q E s:=by
 unfold getAttr? getAttrBy?;refine wpAny_bind (wpAny_mkText (wpAny_bind (wpAny_attempt (mZ (s:={s with toks:=s.toks+1}) X k e hc ?_))));exact wpAny_pure hq
theorem xi (k:Ax K C):KitX K (.ref x) (.ref C) (λh=>∃o,h.get? x=some o/\o.cls=.ref C) where
 ty:=λ_ _ _ ⟨o,e,hc⟩=>hc▸(Looks.ld e).andThen .now
 it:=λ_ _ X _=>by
  have Jv:=k.cls;unfold clsIn at Jv
  split at Jv
  ·rename_i c' d' YW Ie ho
   intro A' Q' E' s' kk q;unfold isType loadHead;exact wpAny_bind (wpAny_loadPart (kk _ _ (X _ _ ho)) (wpAny_pure q))
  ·cases Jv
 ne:=λh tp dd its n sl X YX=>by
  have Jv:=k.cls;refine Bool.eq_false_iff.mpr λq=>?_;have e:C=tp:=Value.ref.inj (beq_iff_eq.mp q);subst e;unfold clsIn at Jv
  split at Jv
  ·rename_i c' d' YW Ie ho
   have z:=(X _ _ ho).symm.trans YX
   cases z
  ·cases Jv
 ca:=λX ⟨o,e,hc⟩ q=>uk X k e hc q
end
section
variable {X:Cx}{pins:List (Addr×Obj)}{σ:St}{H:Hp}{s:Fp}
inductive DM (K:Frag)(H:Hp):V->Value->Prop where
 |of {x:V}{t:Value}(h:Fu K H x t):DM K H x t
 |exc {a C:Addr}(e:H a=some (lD a (.ref C)))(k:Ax K C):DM K H (.ref a) (.ref C)
theorem z9 {A:Around}{E:oP}{Q:oP}{x:V}{u t c:Value}{b:Bool}(I:Inv X pins σ H s)(rx:aD x u)(ty:DM X.K H x t)(e:kitOne X.K t c=some b)(h:∀tk,Q (.bool b) {s with toks:=tk}):
 wpAny (model X.prog X.w) A (call (.builtin "isinstance") [u,c]) Q E s:=by
 cases ty with
 |of z=>exact acD I rx z e h
 |exc ea k =>
  rename_i a C
  cases(show u=Value.ref a from rx)
  obtain⟨o,vs,h1,h2,_⟩:=rO I.hok ea;exact kia_one (xi k) I.kIn ⟨o,h1,h2⟩ e (λz=>nomatch z) h
noncomputable def Ey:V->Value->Prop
 | .ty n,c=>c=.type n
 | .ref a,c=>c=.ref a
 |_,_=>False
theorem aN:dE X (.builtin "isinstance") (λxs H Q=>∃x c t cv b,xs=[x,c]/\Ey c cv/\DM X.K H x t/\kitOne X.K t cv=some b/\Q (.bl b) H):=by
 intro pins s σ H xs us Q I r h;obtain⟨x,c,t,cv,b,rfl,hc,ty,e,q⟩:=h
 cases r with
 |cons r1 r2 =>
  cases r2 with
  |cons r2 r3 =>
   cases r3
   rename_i u uc
   have YY:uc=cv:=by
    cases c with
    |ty n=>cases(show uc=Value.type n from r2);exact hc.symm
    |ref a=>cases(show uc=Value.ref a from r2);exact hc.symm
    |_=>exact hc.elim
   subst YY;exact z9 I r1 ty e λtk=>⟨.bl b,H,I.tok tk,rfl,q⟩
end
variable {N:nO}{k:Nat}{sp:Sp}
section
variable {P:zO}{w:World}{K:PySem.W.Frag}{mg:yN}{base:Heap}
theorem xR.okN (F:xR K x qual st f fd)(S:yd N ps (ak st))(len:∀vs H Q E,sp vs H Q E->vs.length=ps.length)
 (Gi:∀(FV:Value)(A:Around)(outer:List Env)(s:Fp)(H:Hp)(vs:List V)(Q:VK)(E:XK),Fq k (A.deeper (envOfC qual (ak st) s.heap.objs.size f FV))->sp vs H Q E →
  ∃t,hV (fk (aO P w) P w K mg base N qual (ak st) f FV A outer s H E).nox (bF st) t/\t {nx:=λ_ H'=>Q .non H',rt:=Q} (gm N vs) H):Ef P w K mg base (aO P w) (k+1) f fd ps sp:=by
 obtain⟨oc,od,kV,doc,pm,an,FV,ct,Gp,rfl,lk,GW⟩:=F.ex;refine rQ lk GW S len λA outer s H vs Q E hr HS=>?_;obtain⟨t,h,q⟩:=Gi FV A outer s H vs Q E hr HS;exact⟨t,h.nox,q⟩
theorem xR.okE (F:xR K x qual st f fd)(S:yd N ps (ak st))(len:∀vs H Q E,sp vs H Q E->vs.length=ps.length)
 (Gi:∀(FV:Value)(A:Around)(outer:List Env)(s:Fp)(H:Hp)(vs:List V)(Q:VK)(E:XK),Fq k (A.deeper (envOfC qual (ak st) s.heap.objs.size f FV))->sp vs H Q E →
  ∃t,hV (fk (aO P w) P w K mg base N qual (ak st) f FV A outer s H E) (bF st) t/\t {nx:=λ_ H'=>Q .non H',rt:=Q} (gm N vs) H):Ef P w K mg base (aO P w) (k+1) f fd ps sp:=by
 obtain⟨oc,od,kV,doc,pm,an,FV,ct,Gp,rfl,lk,GW⟩:=F.ex;exact rQ lk GW S len λA outer s H vs Q E hr HS=>Gi FV A outer s H vs Q E hr HS
end
section
variable {X:Cx}{pins:List (Addr×Obj)}{σ:St}{H:Hp}{s:Fp}
theorem AB {x:V}{u t:Value}(I:Inv X pins σ H s)(rx:aD x u)(ty:DM X.K H x t):Looks (model X.prog X.w) s.heap (typeOf u) t:=by
 cases ty with
 |of ty =>
  cases ty with
  |non=>cases(show u=Value.none from rx);exact kitx_none.ty _ _ I.kIn True.intro
  |bl y=>cases(show u=Value.bool y from rx);exact kitx_bool.ty _ _ I.kIn True.intro
  |int i=>obtain⟨t,q⟩:=(show ∃t,u=Value.int i t from rx);cases q;exact kitx_int.ty _ _ I.kIn True.intro
  |str y=>obtain⟨t,q⟩:=(show ∃t,u=Value.str y t from rx);cases q;exact kitx_str.ty _ _ I.kIn True.intro
  |flt y=>obtain⟨t,q⟩:=(show ∃t,u=Value.float y t from rx);cases q;exact kitx_float.ty _ _ I.kIn True.intro
  |@lst a xs ea =>
   cases(show u=Value.ref a from rx)
   obtain⟨_,_,n,_,h1⟩:=(show br X.prog X.w H s.heap a (.lst xs) from I.hok a _ ea);exact kitx_list.ty _ _ I.kIn ⟨_,h1,rfl⟩
  |@frz a ob xs ea =>
   cases(show u=Value.ref a from rx)
   obtain⟨_,_,_,n,_,h1⟩:=(show br X.prog X.w H s.heap a (.frz ob (.lst xs)) from I.hok a _ ea);exact kitx_list.ty _ _ I.kIn ⟨_,h1,rfl⟩
  |@tup a xs ea =>
   cases(show u=Value.ref a from rx)
   obtain⟨_,_,_,p⟩:=(show br X.prog X.w H s.heap a (.tup xs) from I.hok a _ ea);obtain⟨o,h1,h2,_⟩:=p;exact kitx_tuple.ty _ _ I.kIn ⟨o,h1,h2⟩
  |@dK a FQ ea =>
   cases(show u=Value.ref a from rx)
   obtain⟨_,_,vs,_,p⟩:=(show br X.prog X.w H s.heap a (.dK FQ) from I.hok a _ ea);obtain⟨o,es,ep,h1,h2,_⟩:=p;exact kitx_dict.ty _ _ I.kIn ⟨o,h1,h2.1⟩
  |@dT a FQ ea =>
   cases(show u=Value.ref a from rx)
   obtain⟨_,_,xs,_,o,es,ep,h1,h2,_⟩:=(show br X.prog X.w H s.heap a (.dT FQ) from I.hok a _ ea);exact kitx_dict.ty _ _ I.kIn ⟨o,h1,h2.1⟩
  |@ins a C dx fs ea cl ha hn RX hm =>
   cases(show u=Value.ref a from rx)
   obtain⟨mA,O,_⟩:=gu I.hok ea;obtain⟨od,J,_⟩:=O.look;exact J.type
 |exc ea k =>
  rename_i a C
  cases(show u=Value.ref a from rx)
  obtain⟨o,vs,h1,h2,_⟩:=rO I.hok ea;exact h2▸(Looks.ld h1).andThen .now
end
section
variable {X:Cx}{CX:Et}{k:Nat}{f C:Addr}{fd:vH}{ps:nO}{sp:Sp}{E:XK}
noncomputable def AF (K:Frag)(C:Addr)(sp:Sp)(E:XK)(neg:Bool):R2:=λx y H Q=>∃p dx fs t,x=.ref p/\H p=some (.ins C dx fs)/\DM K H y t/\notFirst K C t=true/\sp [x,y] H (λv H'=>∃b,v=.bl b/\Q (.bl (b != neg)) H') E
theorem wq (hs:findIn X.K (.ref C) "__eq__"=some (some (.ref f)))(hf:isFn X.K (.ref f)=true)(F:Ef X.prog X.w X.K X.mg X.base CX k f fd ps sp)(hr:Fq k X.A)(hb:az X.K fd ps [])(hx:eJ CX X E):
 gF X (compareOp .Eq) (AF X.K C sp E false):=by
 intro pins s σ H x y v u Q I rx ry h;obtain⟨p,dx,fs,t,rfl,ep,ty,hn,q⟩:=h
 cases(show v=Value.ref p from rx)
 obtain⟨mA,O,_⟩:=gu I.hok ep;obtain⟨od,J,_⟩:=O.look;obtain⟨m,Fm⟩:=I.fr;refine cmp_ofEq (cmp_K hr.abj Fm I.mod.kin J (AB I ry ty) hn hs hf ?_);refine bA (nv (dvs:=[]) F hr hb .nil hx I (us:=[.ref p,u]) (vs:=[.ref p,y]) (.cons rx (.cons ry .nil)) q) λr s1 z'=>?_;obtain⟨z,H1,I1,rz,b,eb,q1⟩:=z';subst eb
 cases(show r=Value.bool b from rz)
 exact⟨.bl b,H1,I1,rfl,by simpa using q1⟩
end
variable {xs:List V}{us:xF}
section
variable {X:Cx}
noncomputable def zZ (K:PySem.W.Frag):R2:=λx y H Q=>∃p q xs,x=.ref p/\y=.ref q/\ba K H p xs/\ba K H q []/\Q (.bl (decide (xs=[]))) H
theorem xv (hr:Fq k X.A):gF X (compareOp .Eq) (zZ X.K):=by
 intro pins s σ H x y v u Q I rx ry h;obtain⟨p,q,xs,rfl,rfl,h1,h2,w⟩:=h
 cases(show v=Value.ref p from rx)
 cases(show u=Value.ref q from ry)
 obtain⟨its,r1,p1,_⟩:=I.list h1;obtain⟨FZ,r2,p2,_⟩:=I.list h2
 cases r2
 by_cases e:xs=[]
 ·subst e
  cases r1
  refine SeqAt.eq_listAt (e:=λ_=>true) p1.isList p2.isList rfl hr.abj (λj a b=>absurd a (by simp)) ⟨.bl true,H,I,?_,by simpa using w⟩;rfl
 ·refine SeqAt.eq_list_lengthsAt p1.isList p2.isList ?_ hr.abj ⟨.bl false,H,I,rfl,by simpa[e] using w⟩;have hl:=r1.length;have hx:xs.length≠0:=λz=>e (List.eq_nil_of_length_eq_zero z)
  have:its.toArray.size≠0:=by rw[List.size_toArray];omega
  simpa using this
noncomputable def zL (K:PySem.W.Frag):V->List V->Hp->VK->Prop:=λx vs H Q=>∃l xs y,x=.ref l/\vs=[y]/\ba K H l xs/\(∀z∈xs,e9 z=true)/\e9 y=true/\Q (.int (xs.countP λz=>uT z y:Nat)) H
theorem n8 (r:aR xs us):∀u∈us,∃z∈xs,aD z u:=by
 induction r with
 |nil=>intro u h;cases h
 |cons r _ ih =>
  intro u h
  rcases List.mem_cons.mp h with rfl|h
  ·exact⟨_,List.mem_cons_self,r⟩
  ·obtain⟨z,hz,q⟩:=ih u h;exact⟨z,List.mem_cons_of_mem _ hz,q⟩
theorem qu {y:V}(r:aR xs us)(hf:∀z∈xs,e9 z=true):us.countP (uR y)=xs.countP λz=>uT z y:=by
 induction r with
 |nil=>rfl
 |cons r _ ih =>
  rw[List.countP_cons,List.countP_cons,ih λz hz=>hf z (List.mem_cons_of_mem _ hz),hJ r (hf _ List.mem_cons_self)]
theorem vX:Df X "list.count" (zL X.K):=by
 intro pins s σ H x vs v us Q I rx rv h;obtain⟨l,xs,y,rfl,rfl,hS,hf,fy,q⟩:=h
 cases(show v=Value.ref l from rx)
 obtain⟨u,rfl,ru⟩:=rv.one;obtain⟨its,r,⟨⟨oc,od,YZ,Gp⟩,n,e,hc,hd,Li⟩,_⟩:=I.list hS;simp only at hc hd Li;subst hc hd Li;refine call_meets F.slot_list_count ⟨_,e,rfl⟩ F.entry_list_count (F.args_list_count_2 _ _) (SeqAt.list_countAt l its.toArray n none Gp u (uR y)) ⟨e,λz hz=>?_,?_⟩
 ·obtain⟨zv,M9,rz⟩:=n8 r z (by simpa using hz);rw[hJ rz (hf zv M9)];exact pK rz ru (hf zv M9) fy
 ·refine⟨.int _,H,I.tok _,⟨s.toks,rfl⟩,?_⟩;rw[show its.toArray.toList=its from rfl,qu r hf];exact q
noncomputable def A8 (K:PySem.W.Frag):V->List V->Hp->VK->Prop:=λx vs H Q=>∃l xs y j,x=.ref l/\vs=[y]/\ba K H l xs/\(∀z∈xs,e9 z=true)/\e9 y=true/\(∃z,xs[j]?=some z/\uT z y=true)/\(∀i z,i<j->xs[i]?=some z->uT z y=false)/\j<1000/\Q (.int (j:Nat)) H
theorem vQ:Df X "list.index" (A8 X.K):=by
 intro pins s σ H x vs v us Q I rx rv h;obtain⟨l,xs,y,j,rfl,rfl,hS,hf,fy,⟨z0,WJ,e0⟩,Jx,hj,q⟩:=h
 cases(show v=Value.ref l from rx)
 obtain⟨u,rfl,ru⟩:=rv.one;obtain⟨its,r,⟨⟨oc,od,YZ,Gp⟩,n,e,hc,hd,Li⟩,_⟩:=I.list hS;simp only at hc hd Li;subst hc hd Li;obtain⟨w0,WK,r0⟩:=r.get WJ
 have FY:j<its.toArray.size:=by rw[List.size_toArray];exact(List.getElem?_eq_some_iff.mp WK).1
 have Y0:its.toArray[j]=w0:=by
  have z:=(List.getElem?_eq_some_iff.mp WK).2;simpa using z
 refine call_meets F.slot_list_index ⟨_,e,rfl⟩ F.entry_list_index (F.args_list_index_2 _ _) (SeqAt.list_indexAt l its.toArray n none Gp u (uR y) j FY (by omega) (by rw[Y0,hJ r0 (hf _ (List.mem_of_getElem? WJ))];exact e0) (λm hm Y1=>?_)) ⟨e,λz hz=>?_,⟨.int _,H,I.tok _,⟨s.toks,rfl⟩,q⟩⟩
 ·have M6:m<xs.length:=by rw[r.length];simpa using hm
  obtain⟨w1,Y2,r1⟩:=r.get (show xs[m]?=some xs[m] by simp[M6])
  have JF:its.toArray[m]=w1:=by
   have z:=(List.getElem?_eq_some_iff.mp Y2).2;simpa using z
  rw[JF,hJ r1 (hf _ (List.getElem_mem M6))];exact Jx m _ Y1 (by simp[M6])
 ·obtain⟨zv,M9,rz⟩:=n8 r z (by simpa using hz);rw[hJ rz (hf zv M9)];exact pK rz ru (hf zv M9) fy
end
noncomputable def dw (c:Addr)(o:Obj):HO:=.ext λh=>h.get? c=some o
theorem jy {c:Addr}(e:h.get? c=some o):br P w H h c (dw c o):=⟨e,⟨o,e⟩,λh1 h2 e k=>k o e⟩
noncomputable def dD (cs:List (Addr×Obj))(H:Hp):Hp:=λb=>match cs.lookup b with|some v=>some (dw b v)|none=>H b
noncomputable def eZ (cs:List (Addr×Obj))(H:Hp):Hp:=λb=>match cs.lookup b with|some _=>none|none=>H b
variable {cs:List (Addr×Obj)}
theorem jv {v:Obj}(e:cs.lookup b=some v):dD cs H b=some (dw b v):=by unfold dD;rw[e]
theorem bw (e:cs.lookup b=none):dD cs H b=H b:=by unfold dD;rw[e]
theorem eo {v:Obj}(e:cs.lookup b=some v):eZ cs H b=none:=by unfold eZ;rw[e]
theorem bY (e:cs.lookup b=none):eZ cs H b=H b:=by unfold eZ;rw[e]
noncomputable def fH (cs:List (Addr×Obj))(H:Hp):Prop:=∀c v,cs.lookup c=some v->H c=some (dw c v)
noncomputable def qr (cs:List (Addr×Obj))(H:Hp)(h:Heap):Prop:=∀c v,cs.lookup c=some v->H c=none/\h.get? c=some v
section
variable {P:zO}{w:World}{cs:List (Addr×Obj)}{H H':Hp}{h h':Heap}
theorem kh (k:eK P w H h)(c:qr cs H h):eK P w (dD cs H) h:=λb o e=>by
 cases q:cs.lookup b with
 |some v =>
  rw[jv q] at e
  cases e
  exact jy (c b v q).2
 |none =>
  rw[bw q] at e
  have keep:∀(d:Addr)(x:HO),H d=some x->dD cs H d=some x:=λd x ed=>by
   cases q2:cs.lookup d with
   |some v=>rw[(c d v q2).1] at ed;cases ed
   |none=>rw[bw q2];exact ed
  exact(k b o e).aaO (λd u _ z=>z) (λd z=>keep d _ z) λd xs z=>keep d _ z
theorem oG (k:eK P w H h)(c:fH cs H):eK P w (eZ cs H) h:=λb o e=>by
 cases q:cs.lookup b with
 |some v=>rw[eo q] at e;cases e
 |none =>
  rw[bY q] at e
  have keep:∀(d:Addr)(x:HO),(∀v,x≠dw d v)->H d=some x->eZ cs H d=some x:=λd x nx ed=>by
   cases q2:cs.lookup d with
   |some v=>rw[c d v q2] at ed;exact absurd (Option.some.inj ed).symm (nx v)
   |none=>rw[bY q2];exact ed
  exact(k b o e).aaO (λd u _ z=>z) (λd z=>keep d _ (λv q=>by cases q) z) λd xs z=>keep d _ (λv q=>by cases q) z
theorem r8 {fs:List Addr}(u:Un fs [] (eZ cs H) H' h h')(c:fH cs H)(hc:∀a v,cs.lookup a=some v->H' a=none):Un fs [] H (dD cs H') h h':=by
 have nl:∀b,H b=none->cs.lookup b=none:=λb n=>by
  cases q:cs.lookup b with
  |none=>rfl
  |some v=>rw[c b v q] at n;cases n
 have Sq:∀b o,H b=some o->(∀v,o≠dw b v)->cs.lookup b=none:=λb o e nx=>by
  cases q:cs.lookup b with
  |none=>rfl
  |some v=>rw[c b v q] at e;exact absurd (Option.some.inj e).symm (nx v)
 refine⟨λb o e n hb hx=>u.keep b o e (by rw[bY (nl b n)];exact n) hb hx,λb o e n hb hx=>u.slot b o e (by rw[bY (nl b n)];exact n) hb hx,λb o e n hx=>?_,u.there,λb xs e=>?_,λb o x e=>?_,λb ps e=>?_⟩
 ·rw[bw (nl b n)];exact u.free b o e (by rw[bY (nl b n)];exact n) hx
 ·have q:=Sq b _ e λv z=>by cases z
  rw[bw q];exact u.aam b xs (by rw[bY q];exact e)
 ·have q:=Sq b _ e λv z=>by cases z
  rw[bw q];exact u.aak b o x (by rw[bY q];exact e)
 ·have q:=Sq b _ e λv z=>by cases z
  obtain⟨m,z⟩:=u.aas b ps (by rw[bY q];exact e);exact⟨m,by rw[bw q];exact z⟩
theorem xS {fs:List Addr}(u:Un fs [] (dD cs H) H' h h')(c:qr cs H h)(hc:fH cs H')(hk:eK P w H' h')(nf:∀a v,cs.lookup a=some v->a∉fs):Un fs [] H (eZ cs H') h h':=by
 refine⟨λb o e n hb hx=>?_,λb o e n hb hx=>?_,λb o e n hx=>?_,u.there,λb xs e=>?_,λb o x e=>?_,λb ps e=>?_⟩
 ·cases q:cs.lookup b with
  |some v =>
   have e1:=(c b v q).2;rw[e] at e1
   cases e1
   exact(hk b _ (hc b _ q)).1
  |none=>exact u.keep b o e (by rw[bw q];exact n) hb hx
 ·cases q:cs.lookup b with
  |some v=>exact absurd hb (nf b v q)
  |none=>exact u.slot b o e (by rw[bw q];exact n) hb hx
 ·cases q:cs.lookup b with
  |some v=>exact eo q
  |none=>rw[bY q];exact u.free b o e (by rw[bw q];exact n) hx
 ·have q:cs.lookup b=none:=by
   cases z:cs.lookup b with
   |none=>rfl
   |some v=>rw[(c b v z).1] at e;cases e
  rw[bY q];exact u.aam b xs (by rw[bw q];exact e)
 ·have q:cs.lookup b=none:=by
   cases z:cs.lookup b with
   |none=>rfl
   |some v=>rw[(c b v z).1] at e;cases e
  rw[bY q];exact u.aak b o x (by rw[bw q];exact e)
 ·have q:cs.lookup b=none:=by
   cases z:cs.lookup b with
   |none=>rfl
   |some v=>rw[(c b v z).1] at e;cases e
  obtain⟨m,y⟩:=u.aas b ps (by rw[bw q];exact e);exact⟨m,by rw[bY q];exact y⟩
end
section
variable {X:Cx}{CX:Et}{k:Nat}{f:Addr}{fd:vH}{ps:nO}{sp:Sp}{cs:List (Addr×Obj)}
theorem yn {Q:VK}{vs:List V}(F:Ef X.prog X.w X.K X.mg X.base CX k f fd ps sp)(hr:Fq k X.A)(hb:az X.K fd ps [])
 (hx:∀(H:Hp)(e:Value)(s':Fp),CX X.stack H s (λ_ _ _=>False) e s'->False)
 (I:Inv X pins σ H s)(c:qr cs H s.heap)(Ro:∀a v,cs.lookup a=some v->a∉dz X.stack)(nb:∀a v,cs.lookup a=some v->X.s₀.heap.objs.size<=a)(r:aR vs us)
 (h:sp vs (dD cs H) (λv H'=>fH cs H'/\Q v (eZ cs H')) λ_ _ _=>False):wpAny (model X.prog X.w) X.A (call (.ref f) us) (EP X pins σ Q) X.xe s:=by
 have hl:us.length=ps.length:=by rw[<-r.length];exact F.len _ _ _ _ h
 have Gs:=hb s us I.kIn (by rw[List.append_nil];exact hl);rw[List.append_nil] at Gs
 have out:∀b,b<X.s₀.heap.objs.size->cs.lookup b=none:=λb hb=>by
  cases q:cs.lookup b with
  |none=>rfl
  |some v=>exact absurd (Nat.lt_of_lt_of_le hb (nb b v q)) (Nat.lt_irrefl _)
 have e0:As X.prog X.w X.K X.mg X.base X.A X.stack s (dD cs H):=⟨I.ok.frames,I.ok.mod,λb o e=>⟨(I.bs b o e).1,by rw[bw (out b (Nat.lt_of_lt_of_le (Heap.lt_size e) I.ok.bsz))];exact(I.bs b o e).2⟩,Nat.le_trans I.ok.bsz I.sz,I.stack,λb hb=>by
  cases q:cs.lookup b with
  |none=>rw[bw q];exact I.aaE b hb
  |some v=>exact absurd hb (Ro b v q),kh I.hok c,I.bare⟩
 refine wpAny_call (codeAny_mono (F.run X.A X.stack s (dD cs H) ⟨us,[]⟩ us vs _ _ hr e0 Gs r h) λr s' hq=>?_)
 cases r with
 |error e=>exact(hx _ e s' hq).elim
 |ok fl =>
  cases fl with
  |ret u =>
   obtain⟨v,H',os,bare,un,hok,rv,Rp,q⟩:=hq;exact⟨v,eZ cs H',I.aa7 (ch:=[]) os (xS un c Rp hok Ro) (oG hok Rp) bare (λb z=>absurd z (by simp)),rv,q⟩
  |next=>exact False.elim hq
  |brk=>exact False.elim hq
  |cont=>exact False.elim hq
end
structure qt (X:Cx)(E:XK):Prop where
 ex:X.ex=[]
 stk:X.stack=X.env::X.outer
 fr:X.env.frame=some X.env.locals
 xe:X.xe=λe s'=>wpAny (model X.prog X.w) X.A (leaving X.env e) (λ_ IA=>aO X.prog X.w X.outer X.H₀ X.s₀ E e IA) (λe' IA=>aO X.prog X.w X.outer X.H₀ X.s₀ E e' IA) s'
theorem tD {X:Cx}{E:XK}(L:qt X E):eJ (aO X.prog X.w) X E:=by
 intro pins σ H1 s1 e s' I hx;obtain⟨a,cls,a0,B,d,H',rfl,ho,hg,F,hE⟩:=hx;rw[L.xe];have fl:=F.fly;rw[L.stk] at fl;refine rR (L:=X.env.locals) (by rw[I.ok.frames,L.stk]) L.fr fl λHK x1 x2=>?_;exact⟨a,cls,a0,B,d,H',rfl,ho.trans I.os,hg,pe I L.ex F x1 x2,hE⟩
noncomputable def Bu (P:zO)(w:World)(K:Frag)(mg:yN)(base:Heap)(N:nO)(qual:Str)(scope:Scope)(f:Addr)(cd:Value)(clos:List (Str×Addr))(A:Around)(outer:List Env)(s:Fp)(H:Hp)(E:XK):Cx where
 prog:=P
 w:=w
 K:=K
 mg:=mg
 base:=base
 A:=A.deeper (envX qual scope s.heap.objs.size f cd clos)
 N:=N
 s₀:=s
 H₀:=H
 env:=envX qual scope s.heap.objs.size f cd clos
 outer:=outer
 stack:=envX qual scope s.heap.objs.size f cd clos::outer
 ex:=[]
 calm:=true
 fn:=λ_=>false
 pn:=[]
 xe:=λe s'=>wpAny (model P w) (A.deeper (envX qual scope s.heap.objs.size f cd clos)) (leaving (envX qual scope s.heap.objs.size f cd clos) e) (λ_ IA=>aO P w outer H s E e IA) (λe' IA=>aO P w outer H s E e' IA) s'
section
variable {P:zO}{w:World}{K:Frag}{mg:yN}{base:Heap}{N:nO}{qual name:Str}{scope:Scope}{f c':Addr}{clos:List (Str×Addr)}{A:Around}{outer:List Env}{s:Fp}{H:Hp}{E:XK}{Q:VK}
 {params:Arguments}{body:Expr}{pm ctv:Value}{k:Nat}{vs:List V}
theorem p8 {cd:Value}:qt (Bu P w K mg base N qual scope f cd clos A outer s H E) E:=⟨rfl,rfl,rfl,rfl⟩
theorem xM (hr:Fq (k+1) A)(e0:As P w K mg base A outer s H)(hf:s.heap.get? f=some (kla_obj name qual params body scope clos pm c' ctv))(GW:s.heap.CodeRec (.ref c') qual)
 (GZ:bindArgs (kla_fn name qual params body scope clos pm (.ref c') ctv) ⟨[],[]⟩=pure [])(hk:scope.kind=.function)(Lc:scope.isCoroutine=false)(IG:scope.isGenerator=false)(Gm:∀x∈scope.names,x.2≠.cell)
 (has:∀x,scope.names.lookup x=some .free->∃c,clos.lookup x=some c)(inj:∀x y c,clos.lookup x=some c->clos.lookup y=some c->x=y)
 (Na:∀x c,clos.lookup x=some c->H c=none/\∃v,s.heap.IsCell c v)
 (hN:∀(i:Nat)(x:Str)(v:V),N[i]?=some x->vs[i]?=some v->scope.names.lookup x=some .free/\∃c u,clos.lookup x=some c/\aD v u/\s.heap.IsCell c (some u))(hl:vs.length=N.length)
 (Gi:∃t,PE (Bu P w K mg base N qual scope f (.ref c') clos A outer s H E) body t/\t (vs.map some) H Q):
 codeAny (model P w) A (.call (.ref f) ⟨[],[]⟩) (CR (aO P w) outer P w H s Q E) s:=by
 obtain⟨t,ht,hq⟩:=Gi;refine kla_callFunE hr.depth hf rfl Lc IG rfl GW ?_;rw[GZ];have lim:s.heap.NoLimit:=e0.mod.nolimit.keeps λb o e=>(e0.bs b o e).1;refine wpAny_pure (wpAny_newFunctionEnv Gm (by intro y hy;simp at hy) (λh₁ Mt WL=>⟨lim.fresh _ WL,?_⟩) hk);show codeAny _ _ (.expr body (envX qual scope s.heap.objs.size f (.ref c') clos)) _ _;have Rq:∀b o,s.heap.get? b=some o->h₁.get? b=some o:=λb o e=>WL.extBut b o (Nat.ne_of_lt (Heap.lt_size e)) (Heap.get?_push_of_some _ e);have Lj:∀x,scope.names.lookup x≠some .cell:=λx e=>Gm _ (PySem.mem_of_lookup e) rfl
 have I:Inv (Bu P w K mg base N qual scope f (.ref c') clos A outer s H E) [] (vs.map some) H {s with heap:=h₁,toks:=s.toks+([]:List (Str×Value)).length}:=by
  refine⟨⟨e0.mod,hk,rfl,rfl,Nat.le_refl _,inj,λx hx=>?_,λx c z _=>absurd (show false=true from z) (by decide),λ_=>hr.hd,Around.frames_deeper e0.frames,.inr ⟨rfl,rfl⟩,λb z=>absurd (show b∈([]:List Addr) from z) (by simp),e0.bs,e0.bsz,
   λb o _ z=>absurd (show b∈([]:List Addr) from z) (by simp),λb z=>absurd (show b∈([]:List Addr) from z) (by simp),e0.aat,e0.frf⟩,
   rfl,e0.bare,Un.kept Rq,⟨_,Mt,λi x v e1 e2 e3=>?_⟩,λx c e=>?_,e0.hok.fresh (Nat.le_refl _),λx c e=>(Na x c e).1,λp hp=>absurd (show p∈([]:List (Addr×Obj)) from hp) (by simp),e0.hok.kept Rq,by rw[List.length_map];exact hl⟩
  ·have hx:scope.names.lookup x=some .cell\/scope.names.lookup x=some .free:=hx
   rcases hx with z|z
   ·exact absurd z (Lj x)
   ·exact has x z
  ·have Y3:vs[i]?=some v:=by
    rw[List.getElem?_map] at e2
    cases q:vs[i]? with
    |none=>rw[q] at e2;cases e2
    |some z=>rw[q] at e2;cases e2;rfl
   obtain⟨fr,c,u,hc,r,z⟩:=hN i x v e1 Y3;obtain⟨o,ho,hd⟩:=z;exact⟨u,r,.inr ⟨.inr fr,c,hc,o,Rq _ _ ho,hd⟩⟩
  ·obtain⟨_,v,o,ho,hd⟩:=Na x c e;exact⟨v,o,Rq _ _ ho,hd⟩
 refine kla_codeExpr (wpAny_mono (ht [] _ _ H Q I hq) (λv s' z'=>?_) λe s' z=>z);obtain⟨x,H',J,r,q⟩:=z';exact⟨x,H',J.os,J.bare,J.base,J.hok,r,q⟩
noncomputable def rE (P:zO)(w:World)(K:Frag)(mg:yN)(base:Heap)(k:Nat)(f:Addr)(φ:Hp->VK->XK->Prop):Prop :=
 (∀H h Q E,eK P w H h->φ H Q E->FnAt f h)/\∀(A:Around)(outer:List Env)(s:Fp)(H:Hp)(Q:VK)(E:XK),Fq k A->As P w K mg base A outer s H->φ H Q E->codeAny (model P w) A (.call (.ref f) ⟨[],[]⟩) (CR (aO P w) outer P w H s Q E) s
end
section
variable {X:Cx}{k i:Nat}{x:Str}{p pos:Pos}{E:St->XK}
noncomputable def vF (P:zO)(w:World)(K:Frag)(mg:yN)(base:Heap)(k i:Nat)(E:St->XK):TE:=λσ H Q=>∃f φ,σ[i]?=some (some (.ref f))/\rE P w K mg base k f φ/\φ H Q (E σ)
theorem vC (hr:Fq k X.A)(hx:∀(pins:List (Addr×Obj))(σ:St)(H:Hp)(s:Fp)(e:Value)(s':Fp),Inv X pins σ H s->aO X.prog X.w X.stack H s (E σ) e s'->X.xe e s')(hv:PE X (.Name x p) (cC i)):
 PE X (.Call (.Name x p) [] [] pos) (vF X.prog X.w X.K X.mg X.base k i E):=by
 intro pins s σ H Q I h;obtain⟨f,φ,ef,C,q⟩:=h;refine wpAny_Call_Name_kw (bA (hv pins s σ H (λv H1=>v=.ref f/\H1=H) I ⟨_,ef,rfl,rfl⟩) λv s1 z'=>?_);obtain⟨y,H1,I1,r1,ey,eh⟩:=z';subst ey eh
 cases(show v=Value.ref f from r1)
 refine callWith_F0 (C.1 _ _ _ _ I1.hok q) ?_;refine wpAny_call (codeAny_mono (C.2 X.A X.stack s1 _ Q (E σ) hr I1.abO q) λr s' hq=>?_)
 cases r with
 |error e=>exact hx pins σ _ s1 e s' I1 hq
 |ok fl =>
  cases fl with
  |ret u=>exact I1.after hq
  |next=>exact False.elim hq
  |brk=>exact False.elim hq
  |cont=>exact False.elim hq
end
section
variable {P:zO}{w:World}{K:Frag}{mg:yN}{base:Heap}{N:nO}{qual name:Str}{scope:Scope}{f c':Addr}{clos:List (Str×Addr)}{params:Arguments}{body:Expr}{pm ctv:Value}{k:Nat}{vs:List V}{cs:List (Addr×Obj)}{oc:Obj}
noncomputable def JG (f c':Addr)(fo oc:Obj)(cs:List (Addr×Obj))(φ0:Hp->VK->XK->Prop):Hp->VK->XK->Prop:=λH Q E=>H f=some (dw f fo)/\H c'=some (dw c' oc)/\fH cs H/\φ0 (eZ cs H) (λv H'=>Q v (dD cs H')) λcls d H'=>E cls d (dD cs H')
theorem t7 {φ0:Hp->VK->XK->Prop}(GZ:bindArgs (kla_fn name qual params body scope clos pm (.ref c') ctv) ⟨[],[]⟩=pure [])(hk:scope.kind=.function)(Lc:scope.isCoroutine=false)(IG:scope.isGenerator=false)(Gm:∀x∈scope.names,x.2≠.cell)
 (has:∀x,scope.names.lookup x=some .free->∃c,clos.lookup x=some c)(inj:∀x y c,clos.lookup x=some c->clos.lookup y=some c->x=y)(Ht:∃ws t,oc.data=.fields ws/\ws[1]?=some (.str qual t))
 (Ms:∀x c,clos.lookup x=some c->∃o v,cs.lookup c=some o/\o.data=.cell v)
 (hN:∀(i:Nat)(x:Str)(v:V),N[i]?=some x->vs[i]?=some v->scope.names.lookup x=some .free/\∃c o u,clos.lookup x=some c/\cs.lookup c=some o/\o.data=.cell (some u)/\aD v u)(hl:vs.length=N.length)
 (Gi:∀(A:Around)(outer:List Env)(s:Fp)(H:Hp)(Q:VK)(E:XK),Fq k (A.deeper (envX qual scope s.heap.objs.size f (.ref c') clos))->φ0 H Q E->∃t,PE (Bu P w K mg base N qual scope f (.ref c') clos A outer s H E) body t/\t (vs.map some) H Q):
 rE P w K mg base (k+1) f (JG f c' (kla_obj name qual params body scope clos pm c' ctv) oc cs φ0):=by
 refine⟨λH h Q E hok q=>?_,λA outer s H Q E hr e0 q=>?_⟩
 ·have e:h.get? f=some _:=(hok f _ q.1).1;exact⟨_,_,_,_,e⟩
 ·obtain⟨qf,qc,qi,q0⟩:=q;have ef:s.heap.get? f=some _:=(e0.hok f _ qf).1;have ec:s.heap.get? c'=some oc:=(e0.hok c' _ qc).1;have at_:∀c o,cs.lookup c=some o->s.heap.get? c=some o:=λc o e=>(e0.hok c _ (qi c o e)).1
  have WM:∀c o,cs.lookup c=some o->c∉dz outer:=λc o e hb=>by
   have:=e0.frf c hb;rw[qi c o e] at this
   cases this
  have Hu:∀b,H b=none->eZ cs H b=none:=λb n=>by
   cases q:cs.lookup b with
   |some v=>exact eo q
   |none=>rw[bY q];exact n
  have e1:As P w K mg base A outer s (eZ cs H):=⟨e0.frames,e0.mod,λb o e=>⟨(e0.bs b o e).1,Hu b (e0.bs b o e).2⟩,e0.bsz,e0.aat,λb hb=>Hu b (e0.frf b hb),oG e0.hok qi,e0.bare⟩;obtain⟨ws,t,d1,d2⟩:=Ht;have Ki:∀{H':Hp}{h':Heap},Un (dz outer) [] (eZ cs H) H' s.heap h'->∀a o,cs.lookup a=some o->H' a=none:=λu a o e=>u.free a o (at_ a o e) (eo e) (by simp);refine codeAny_mono (xM (c':=c') (clos:=clos) (N:=N) (vs:=vs) hr e1 ef ⟨c',oc,ws,t,rfl,ec,d1,d2⟩ GZ hk Lc IG Gm has inj (λx c e=>?_) (λi x v a b=>?_) hl (Gi A outer s _ _ _ (hr.deeper _) q0)) λr s' hq=>?_
  ·obtain⟨o,v,e2,d⟩:=Ms x c e;exact⟨eo e2,v,o,at_ c o e2,d⟩
  ·obtain⟨fr,c,o,u,z1,z2,z3,z4⟩:=hN i x v a b;exact⟨fr,c,u,z1,z4,o,at_ c o z2,z3⟩
  ·cases r with
   |error e =>
    obtain⟨a,cls,a0,B,d,H',rfl,os,bare,F,hE⟩:=hq;have hB:∀c o,cs.lookup c=some o->B.get? c=some o:=λc o e=>F.keep c o (at_ c o e) (eo e) (WM c o e);have hH:∀c o,cs.lookup c=some o->H' c=none:=Ki F.un;refine⟨a,cls,a0,B,d,dD cs H',rfl,os,bare,⟨F.fly,r8 F.un qi hH,λb o e n hb=>F.keep b o e (Hu b n) hb,F.there,kh F.hok λc o e=>⟨hH c o e,hB c o e⟩,?_⟩,hE⟩
    have na:cs.lookup a=none:=by
     cases q:cs.lookup a with
     |none=>rfl
     |some o =>
      have:=hB a o q;rw[F.fly.new] at this
      cases this
    rw[bw na];exact F.new
   |ok fl =>
    cases fl with
    |ret u =>
     obtain⟨v,H',os,bare,un,hok,rv,q⟩:=hq;have hH:=Ki un;exact⟨v,dD cs H',os,bare,r8 un qi hH,kh hok λc o e=>⟨hH c o e,un.keep c o (at_ c o e) (eo e) (WM c o e) (by simp)⟩,rv,q⟩
    |next=>exact False.elim hq
    |brk=>exact False.elim hq
    |cont=>exact False.elim hq
end
section
variable {X:Cx}{params:Arguments}{body:Expr}{scope osc:Scope}{pos:Pos}{cc Pt:Addr}
structure xk (X:Cx)(cc Pt:Addr):Prop where
 code:X.env.code=.ref cc
 hd:CodeHd X.base cc Pt
 bm:∃bm ob,X.mg "__builtins__"=some (.ref bm)/\bm≠builtinsNs/\X.base.get? bm=some ob/\ob.cls=.type "module"/\ob.dict=some builtinsNs/\ob.data=.plain
noncomputable abbrev f9 (X:Cx)(params:Arguments)(body:Expr)(scope:Scope)(c':Addr)(ctv:Value):Obj:=kla_obj "<lambda>" (X.env.qual++"<lambda>") params body scope (dn scope.names X.env) ((X.mg "__name__").getD .none) c' ctv
noncomputable def eM (q:Str)(oc:Obj):Prop:=∃ws t,oc.data=.fields ws/\ws[1]?=some (.str q t)
noncomputable def BL (X:Cx)(params:Arguments)(body:Expr)(scope:Scope)(pos:Pos)(Pt:Addr):TE:=λ_ H Q=>∃ps,H Pt=some (.tbl ps)/\TriplesOk ps.toList /\
 ((codeAmong pos ps.toList=none/\∀c' f oc ctv,H c'=none->H f=none->c'≠f->eM (X.env.qual++"<lambda>") oc →
  Q (.ref f) (upd (upd (upd H Pt (.tbl (ps++#[rawInt pos.line,rawInt pos.col,.ref c']))) c' (dw c' oc)) f (dw f (f9 X params body scope c' ctv)))) \/
  ∃c' oc,codeAmong pos ps.toList=some (.ref c')/\H c'=some (dw c' oc)/\eM (X.env.qual++"<lambda>") oc/\∀f ctv,H f=none->Q (.ref f) (upd H f (dw f (f9 X params body scope c' ctv))))
theorem uo (M:xk X cc Pt)(Sr:X.env.scope=osc)(GC:∀y∈scope.names,y.2=.free->osc.names.lookup y.1=some .cell\/osc.names.lookup y.1=some .free)(Ss:defaultsOf params X.env=([],[])):
 PE X (.Lambda params body scope pos) (BL X params body scope pos Pt):=by
 intro pins s σ H Q I h;obtain⟨ps,hP,ht,h⟩:=h
 have Na:closureFor scope X.env=pure (dn scope.names X.env):=gL λy hy hf=>by
  have z:=GC y hy hf;rw[<-Sr] at z;exact I.ok.has y.1 z
 have eP:s.heap.get? Pt=some (tabObj ps):=I.hok Pt _ hP;have hg:s.heap.Ns mainGlobals X.mg:=I.mod.glob.keeps I.bk
 have Y4:mainGlobals≠Pt:=λq=>by
  obtain⟨o,es,ep,e,hd,_⟩:=hg;rw[q,eP] at e
  cases e
  cases hd
 obtain⟨bm,ob,b1,b2,b3,b4,b5,b6⟩:=M.bm
 have WN:bm≠Pt:=λq=>by
  have e:=I.bk _ _ b3;rw[q,eP] at e
  cases e
  cases b4
 have WO:bm≠mainGlobals:=λq=>by
  obtain⟨o,es,ep,e,hd,_⟩:=hg;rw[<-q,I.bk _ _ b3] at e
  cases e
  rw[b6] at hd
  cases hd
 have C:=M.hd.keeps I.bk
 have nP:∀b,H b=none->b≠Pt:=λb n z=>by rw[z,hP] at n;cases n
 refine kla_eval Ss ?_
 rcases h with⟨hn,q⟩|⟨c',oc,hf,Gd,ho,q⟩
 ·refine kla_makeFunction (mg:=X.mg) Na I.ok.glob hg M.code C eP ht hn Y4 ⟨bm,ob,b1,b2,WO,WN,I.bk _ _ b3,b4,b5,b6⟩ λc' ctv h' tk hx Su FY Sv WQ=>?_;obtain⟨c2,oc,ws,t,e2,Ht,hd,hv⟩:=Sv
  cases e2
  have hsz:s.heap.objs.size<=h'.objs.size:=Nat.le_trans Su (Nat.le_of_lt FY);have fc:H c'=none:=I.hok.fresh Su;have ff:H h'.objs.size=none:=I.hok.fresh hsz;have Y5:c'≠h'.objs.size:=Nat.ne_of_lt FY;have old:∀b o,b≠Pt->s.heap.get? b=some o->(h'.push (f9 X params body scope c' ctv)).get? b=some o:=λb o n e=>Heap.get?_push_of_some _ (hx b o n e);have lt:∀b o,s.heap.get? b=some o->b≠c'/\b≠h'.objs.size:=λb o e=>⟨Nat.ne_of_lt (Nat.lt_of_lt_of_le (Heap.lt_size e) Su),Nat.ne_of_lt (Nat.lt_of_lt_of_le (Heap.lt_size e) hsz)⟩;have P1:Pt≠c':=(lt _ _ eP).1;have P2:Pt≠h'.objs.size:=(lt _ _ eP).2
  have nH:∀b o,H b=some o->b≠Pt->(upd (upd (upd H Pt (.tbl (ps++#[rawInt pos.line,rawInt pos.col,.ref c']))) c' (dw c' oc)) h'.objs.size (dw h'.objs.size (f9 X params body scope c' ctv))) b=some o:=λb o e n=>by
   obtain⟨ob,eb⟩:=(I.hok b o e).there;rw[ai (lt b ob eb).2,ai (lt b ob eb).1,ai n];exact e
  refine⟨.ref h'.objs.size,_,I.un (t':=tk) (H':=upd (upd (upd H Pt (.tbl (ps++#[rawInt pos.line,rawInt pos.col,.ref c']))) c' (dw c' oc)) h'.objs.size (dw h'.objs.size (f9 X params body scope c' ctv))) ?_ ?_,rfl,q c' h'.objs.size oc ctv fc ff Y5 ⟨ws,t,hd,hv⟩⟩
  ·refine⟨λb o e n _ _=>old b o (nP b n) e,λb o e n _ _=>⟨o.slots,old b o (nP b n) e⟩,λb o e n _=>?_,λb o e _=>?_,λb xs e=>nH b _ e (λz=>by rw[z,hP] at e;cases e),λb o u e=>nH b _ e (λz=>by rw[z,hP] at e;cases e),λb rs e=>?_⟩
   ·rw[ai (lt b o e).2,ai (lt b o e).1,ai (nP b n)];exact n
   ·by_cases z:b=Pt
    ·exact⟨_,by rw[z];exact Heap.get?_push_of_some _ WQ⟩
    ·exact⟨o,old b o z e⟩
   ·by_cases z:b=Pt
    ·rw[z,hP] at e
     cases e
     exact⟨_,by rw[z,ai P2,ai P1,ae]⟩
    ·exact⟨#[],by rw[nH b _ e z];simp⟩
  ·intro b o e
   by_cases z1:b=h'.objs.size
   ·subst z1;rw[ae] at e
    cases e
    exact jy (Heap.get?_push_size _ rfl)
   ·rw[ai z1] at e
    by_cases z2:b=c'
    ·subst z2;rw[ae] at e
     cases e
     exact jy (Heap.get?_push_of_some _ Ht)
    ·rw[ai z2] at e
     by_cases z3:b=Pt
     ·subst z3;rw[ae] at e
      cases e
      exact Heap.get?_push_of_some _ WQ
     ·rw[ai z3] at e
      refine(I.hok b o e).aaO (λc v hc q=>old c v (λz=>?_) q) (λc q=>nH c _ q λz=>by rw[z,hP] at q;cases q) λc xs q=>nH c _ q λz=>by rw[z,hP] at q;cases q
      rcases hc with hc|hc
      ·exact z3 (hc▸z)
      ·rw[z,hP] at hc;cases hc
 ·refine kla_makeFunctionHit (mg:=X.mg) Na I.ok.glob hg M.code C eP ht hf ⟨bm,ob,b1,b2,WO,WN,I.bk _ _ b3,b4,b5,b6⟩ λctv h' tk hk hsz=>?_;have ff:H h'.objs.size=none:=I.hok.fresh hsz;refine⟨.ref h'.objs.size,_,I.laid (t':=tk) (λb u e=>Heap.get?_push_of_some _ (hk b u e)) hsz (jy (Heap.get?_push_size _ rfl)),rfl,q _ ctv ff⟩
end
noncomputable def xn (tabs:List (Addr×Addr))(H:Hp):Prop:=(∀b,H b=none\/(∃o xs,H b=some (.frz o (.lst xs)))\/(H b=some (.tbl #[])/\∃c,(c,b)∈tabs))/\∀q∈tabs,H q.2=some (.tbl #[])
structure wO (tabs:List (Addr×Addr))(mg:yN)(base:Heap):Prop where
 hd:∀q∈tabs,CodeHd base q.1 q.2
 bm:∃bm ob,mg "__builtins__"=some (.ref bm)/\bm≠builtinsNs/\base.get? bm=some ob/\ob.cls=.type "module"/\ob.dict=some builtinsNs/\ob.data=.plain
variable {K:Frag}
theorem uv {mg mb:yN}{CX:Et}{fa:Addr}{s₁:Fp}{vs:xF}{ns:List Int}{tabs:List (Addr×Addr)}
 (KX:K.In s₁.heap)(Mt:s₁.heap.Ns mainGlobals mg)(hb:s₁.heap.Ns builtinsNs mb)(Y6:∀x:Str,x ≠ "__name__"->mb x=bootBuiltins x)(Sw:s₁.heap.NoLimit)(hg:s₁.gens = #[])
 (ha:s₁.heap.get? a=some {cls:=.type "list",data:=.seq vs.toArray})(hi:IntsAre vs ns)(hl:ns.length<=sizeLine)(hr:Fq k callerA)(hT:TabsAt tabs s₁.heap)(Y7:∀q∈tabs,K.lookup q.2=none)
 (Y8:∃bm ob,mg "__builtins__"=some (.ref bm)/\bm≠builtinsNs/\s₁.heap.get? bm=some ob/\ob.cls=.type "module"/\ob.dict=some builtinsNs/\ob.data=.plain)
 (F:∀base:Heap,K.In base->base.Ns mainGlobals mg->wO tabs mg base->Ef P w K mg base CX k fa fd [x] sp)(GZ:∀(s:Fp)(u:Value),BindsTo s fd ⟨[u],[]⟩ [(x,u)])
 (HS:∀H:Hp,xn tabs H->ba K H a (ns.map V.int)->sp [.ref a] H (λv _=>v=.bl true) λ_ _ _=>False)
 (Sx:∀H e s',CX [] H s₁ (λ_ _ _=>False) e s'->False):
 codeAny (model P w) callerA (.call (.ref fa) ⟨[.ref a],[]⟩) (λr s'=>r=.ok (.ret (.bool true))/\OldK s₁.heap s'.heap/\s'.os=s₁.os/\AllBare s'.gens) s₁:=by
 have rv:=l7 hi;have Sy:=hi.length;have ir:∀b,(∃c,(c,b)∈tabs)->s₁.heap.get? b=some (tabObj #[]):=λb ⟨c,hc⟩=>(hT _ hc).2
 have core:∀H:Hp,xn tabs H->ba K H a (ns.map V.int)->eK P w H s₁.heap->(∀b,H b≠none->b=a\/∃c,(c,b)∈tabs)->(H a≠none->K.lookup a=none) →
  codeAny (model P w) callerA (.call (.ref fa) ⟨[.ref a],[]⟩) (λr s'=>r=.ok (.ret (.bool true))/\OldK s₁.heap s'.heap/\s'.os=s₁.os/\AllBare s'.gens) s₁:=by
  intro H hO hS hok hA hK;have base_of:∀{b:Addr}{o:Obj},s₁.heap.get? b=some o->H b=none->(lB s₁.heap H).get? b=some o:=λe n=>aaA e n
  have WR:∀{b:Addr}{o:Obj},s₁.heap.get? b=some o->o.cls≠.none->(∀its n,o.data≠.seq its n)->H b=none:=λ{b o} e d1 d2=>by
   cases q:H b with
   |none=>rfl
   |some u =>
    rcases hA b (by rw[q];simp) with e'|e'
    ·subst e';rw[ha] at e;cases e;exact absurd rfl (d2 _ _)
    ·rw[ir b e'] at e;cases e;exact absurd rfl d1
  have MQ:∀{b:Addr}{o:Obj}{es:Array DictEntry}{ep:Nat},s₁.heap.get? b=some o->o.data=.dict es ep->H b=none:=λ{b o es ep} e d=>by
   cases q:H b with
   |none=>rfl
   |some u =>
    rcases hA b (by rw[q];simp) with e'|e'
    ·subst e';rw[ha] at e;cases e;have d':Data.seq vs.toArray _=Data.dict es ep:=d
     cases d'
    ·rw[ir b e'] at e;cases e;have d':Data.fields #[]=Data.dict es ep:=d
     cases d'
  have Rr:∀{b:Addr}{m:yN},s₁.heap.Ns b m->(lB s₁.heap H).Ns b m:=λ{b m} ⟨o,es,ep,e,d,r⟩=>⟨o,es,ep,base_of e (MQ e d),d,r⟩
  have WS:K.In (lB s₁.heap H):=λb o e=>base_of (KX b o e) (by
   cases q:H b with
   |none=>rfl
   |some u =>
    rcases hA b (by rw[q];simp) with e'|⟨c,e'⟩
    ·subst e';rw[hK (by rw[q];simp)] at e;cases e
    ·have z:=Y7 _ e'
     rw[z] at e;cases e)
  have hM:Mod K mg (lB s₁.heap H):=⟨WS,Rr Mt,⟨mb,Rr hb,Y6⟩,let⟨mc,h1,h2⟩:=Sw;⟨mc,Rr h1,h2⟩⟩
  have Y9:wO tabs mg (lB s₁.heap H):=by
   refine⟨λq hq=>?_,?_⟩
   ·obtain⟨o,ws,file,tf,flags,tg,Za,text,tt,e1,r1,r2,r3⟩:=(hT q hq).1;exact⟨o,ws,file,tf,flags,tg,Za,text,tt,base_of e1 (WR e1 (by rw[r1];intro z;cases z) (λits n z=>by rw[r2] at z;cases z)),r1,r2,r3⟩
   ·obtain⟨bm,ob,b1,b2,b3,b4,b5,b6⟩:=Y8;exact⟨bm,ob,b1,b2,base_of b3 (WR b3 (by rw[b4];intro z;cases z) (λits n z=>by rw[b6] at z;cases z)),b4,b5,b6⟩
  have e0:As P w K mg (lB s₁.heap H) callerA [] s₁ H:=⟨rfl,hM,λb o e=>abJ e,Nat.le_of_eq (aay _ _),trivial,λb hb=>absurd (show b∈([]:List Addr) from hb) (by simp),hok,.of_eq hg⟩;refine codeAny_mono ((F _ WS (Rr Mt) Y9).run callerA [] s₁ H ⟨[.ref a],[]⟩ [.ref a] [.ref a] _ _ hr e0 (GZ s₁ (.ref a)) (.cons rfl .nil) (HS H hO hS)) λr s' h=>?_
  cases r with
  |error e=>exact(Sx H e s' h).elim
  |ok fl =>
   cases fl with
   |next=>exact False.elim h
   |brk=>exact False.elim h
   |cont=>exact False.elim h
   |ret u =>
    obtain⟨v,H',os,bare,un,Nb,r',q⟩:=h;have q':v=.bl true:=q;subst q';obtain rfl:u=Value.bool true:=r';refine⟨rfl,⟨λb o e=>?_,λb o e=>un.there b o e (by simp)⟩,os,bare⟩
    cases q:H b with
    |none=>exact .inl (un.keep b o e q (by intro z;exact absurd (show b∈([]:List Addr) from z) (by simp)) (by simp))
    |some u =>
     rcases hO.1 b with z|⟨ob,xs,z⟩|⟨z,c,hc⟩
     ·rw[q] at z;cases z
     ·have z2:=un.aak b ob _ z;obtain⟨e1,_⟩:=hok b _ z;obtain⟨e2,_⟩:=Nb b _ z2;rw[e] at e1;cases e1;exact .inl e2
     ·obtain⟨more,z2⟩:=un.aas b _ z;have e2:s'.heap.get? b=some {cls:=.none,data:=.fields (#[]++more)}:=Nb b _ z2;have e1:=ir b ⟨c,hc⟩;rw[e] at e1;cases e1;exact .inr (.inl ⟨((hT _ hc).1.tab (hT _ hc).2).isCodeTable,rfl,#[],more,rfl,e2⟩)
 have aT:∀c,(c,a)∉tabs:=λc hc=>by
  have z:=ir a ⟨c,hc⟩;rw[ha] at z
  cases z
 have Nc:∀b,Decidable (∃c,(c,b)∈tabs):=λb=>Classical.propDecidable _
 cases hk:K.lookup a with
 |some o =>
  have e:=KX a o hk;rw[ha] at e
  cases e
  refine core (λb=>@ite _ (∃c,(c,b)∈tabs) (Nc b) (some (.tbl #[])) none) ⟨λb=>?_,λq hq=>?_⟩ (.inr ⟨_,vs.toArray,_,hk,rfl,rfl,rfl,by rw[List.size_toArray,Sy];exact hl,by simpa using rv⟩) (λb u z=>?_) (λb z=>?_) λz=>?_
  ·by_cases hb:∃c,(c,b)∈tabs
   ·exact .inr (.inr ⟨if_pos hb,hb⟩)
   ·exact .inl (if_neg hb)
  ·exact if_pos ⟨q.1,hq⟩
  ·by_cases hb:∃c,(c,b)∈tabs
   ·have z':=(if_pos hb).symm.trans z
    cases z'
    exact ir b hb
   ·have z':=(if_neg hb).symm.trans z
    cases z'
  ·by_cases hb:∃c,(c,b)∈tabs
   ·exact .inr hb
   ·exact absurd (if_neg hb) z
  ·exact absurd (if_neg λ⟨c,hc⟩=>aT c hc) z
 |none =>
  refine core (λb=>if b=a then some (.frz {cls:=.type "list",data:=.seq vs.toArray} (.lst (ns.map V.int))) else @ite _ (∃c,(c,b)∈tabs) (Nc b) (some (.tbl #[])) none) ⟨λb=>?_,λq hq=>?_⟩ (.inl (.inr ⟨{cls:=.type "list",data:=.seq vs.toArray},if_pos rfl⟩)) (λb u z=>?_) (λb z=>?_) λ_=>hk
  ·by_cases hb:b=a
   ·exact .inr (.inl ⟨_,_,if_pos hb⟩)
   ·by_cases ht:∃c,(c,b)∈tabs
    ·exact .inr (.inr ⟨(if_neg hb).trans (if_pos ht),ht⟩)
    ·exact .inl ((if_neg hb).trans (if_neg ht))
  ·have hb:q.2≠a:=λz=>aT q.1 (by rw[<-z];exact hq);exact(if_neg hb).trans (if_pos ⟨q.1,hq⟩)
  ·by_cases hb:b=a
   ·have z':=(if_pos hb).symm.trans z
    cases z'
    subst hb;exact⟨ha,by rw[List.length_map];exact hl,vs,_,rv,ha⟩
   ·have z':=(if_neg hb).symm.trans z
    by_cases ht:∃c,(c,b)∈tabs
    ·have z2:=(if_pos ht).symm.trans z'
     cases z2
     exact ir b ht
    ·have z2:=(if_neg ht).symm.trans z'
     cases z2
  ·by_cases hb:b=a
   ·exact .inl hb
   ·by_cases ht:∃c,(c,b)∈tabs
    ·exact .inr ht
    ·exact absurd ((if_neg hb).trans (if_neg ht)) z
structure Ca (K:Frag)(x qual:Str)(st:Stmt)(f:Addr)(fd:vH)(T:Addr):Prop where
 ex:∃(oc:Value)(od:zR)(kV doc pm:Value)(an:zR)(FV ct:Value)(Gp:Bp),
  fd=fnOf x qual (b9 st) (bF st) (ak st) (.ref T) kV doc pm an FV ct/\K.lookup f=some ⟨oc,od,.func fd,Gp⟩/\codeIn K FV qual=true
 kp:keepIn K (.ref f)=true
section
variable {P:zO}{w:World}{K:Frag}{mg:yN}{base:Heap}
theorem Ca.okE {T:Addr}(F:Ca K x qual st f fd T)(S:yd N ps (ak st))(len:∀vs H Q E,sp vs H Q E->vs.length=ps.length)
 (Gi:∀(FV:Value)(A:Around)(outer:List Env)(s:Fp)(H:Hp)(vs:List V)(Q:VK)(E:XK),Fq k (A.deeper (envOfC qual (ak st) s.heap.objs.size f FV))->sp vs H Q E →
  ∃t,hV (fk (aO P w) P w K mg base N qual (ak st) f FV A outer s H E) (bF st) t/\t {nx:=λ_ H'=>Q .non H',rt:=Q} (gm N vs) H):Ef P w K mg base (aO P w) (k+1) f fd ps sp:=by
 obtain⟨oc,od,kV,doc,pm,an,FV,ct,Gp,rfl,lk,GW⟩:=F.ex;exact rQ lk GW S len λA outer s H vs Q E hr HS=>Gi FV A outer s H vs Q E hr HS
theorem xY {T:Addr}{oc:Value}{od an:zR}{Gp:Bp}{kV doc pm FV ct:Value}(l:K.lookup f=some ⟨oc,od,.func (fnOf x qual (b9 st) (bF st) (ak st) (.ref T) kV doc pm an FV ct),Gp⟩)
 (c:codeIn K FV qual=true)(k:keepIn K (.ref f)=true):Ca K x qual st f (fnOf x qual (b9 st) (bF st) (ak st) (.ref T) kV doc pm an FV ct) T:=⟨⟨oc,od,kV,doc,pm,an,FV,ct,Gp,rfl,l,c⟩,k⟩
end
noncomputable def eB (X:Cx)(y:Str):Addr:=(X.env.cells.lookup y).getD 0
noncomputable def dN:Expr->Bool
 | .Starred _ _=>true
 |_=>false
theorem aV {e:Expr}{rest:wW}(h:dN e=false):starEach (e::rest) env=(false,eval e env):: starEach rest env:=by
 cases e <;> first|rfl|cases h
section
variable {X:Cx}{e:Expr}{es:wW}{te:TE}{t:TA}
theorem aj (ha:PE X e te)(hr:PA X es t)(h:dN e=false:=by rfl):PA X (e::es) (aQ te t):=aS ha hr (aV h)
end
inductive D where
 |non|bl (b:Bool)|int (i:Int)|str (x:Str)|lst (ds:List D)|tup (ds:List D)
mutual
noncomputable def aX (K:Frag)(H:Hp):D->V->Prop
 | .non,v=>v=.non
 | .bl b,v=>v=.bl b
 | .int i,v=>v=.int i
 | .str x,v=>v=.str x
 | .lst ds,v=>∃a xs,v=.ref a/\ba K H a xs/\cj K H ds xs
 | .tup ds,v=>∃a xs,v=.ref a/\bx K H a xs/\cj K H ds xs
noncomputable def cj (K:Frag)(H:Hp):List D->List V->Prop
 |[],xs=>xs=[]
 |d::ds,xs=>∃y ys,xs=y::ys/\aX K H d y/\cj K H ds ys
end
mutual
noncomputable def iM:D->D->Bool
 | .non,.non=>true
 | .bl a,.bl b=>a==b
 | .bl a,.int b=>(if a then 1 else 0)==b
 | .int a,.bl b=>a==(if b then 1 else 0)
 | .int a,.int b=>a==b
 | .str a,.str b=>a==b
 | .lst a,.lst b=>eE a b
 | .tup a,.tup b=>eE a b
 |_,_=>false
noncomputable def eE:List D->List D->Bool
 |[],[]=>true
 |a::as,b::bs=>iM a b&&eE as bs
 |_,_=>false
end
mutual
noncomputable def pC:D->Nat
 | .lst ds=>lE ds+1
 | .tup ds=>lE ds+1
 |_=>0
noncomputable def lE:List D->Nat
 |[]=>0
 |d::ds=>max (pC d) (lE ds)
end
theorem qX:∀{ds:List D}{d:D},d∈ds->pC d<=lE ds
 |e::ds,d,h=>by
  unfold lE
  rcases List.mem_cons.mp h with rfl|h
  ·exact Nat.le_max_left _ _
  ·exact Nat.le_trans (qX h) (Nat.le_max_right _ _)
theorem gR:∀(as bs:List D),eE as bs=((List.range (min as.length bs.length)).all (λj=>iM (as.getD j .non) (bs.getD j .non))&&as.length==bs.length)
 |[],[]=>rfl
 |[],b::bs=>by simp;rfl
 |a::as,[]=>by simp;rfl
 |a::as,b::bs=>by
  show(iM a b&&eE as bs)=_;rw[gR as bs]
  have e:min (a::as).length (b::bs).length=min as.length bs.length+1:=by simp[Nat.succ_min_succ]
  rw[e,List.range_succ_eq_map,List.all_cons,List.all_map]
  have h1:((a::as).length==(b::bs).length)=(as.length==bs.length):=by simp
  rw[h1,Bool.and_assoc];rfl
theorem cj.len :∀{ds:List D}{xs:List V},cj K H ds xs->ds.length=xs.length
 |[],xs,h=>by
  have h:xs=[]:=by unfold cj at h;exact h
  rw[h];rfl
 |d::ds,xs,h=>by
  unfold cj at h;obtain⟨y,ys,rfl,_,h⟩:=h;simp[cj.len h]
theorem cj.get :∀{ds:List D}{xs:List V}{j:Nat}(hj:j<xs.length),cj K H ds xs->aX K H (ds.getD j .non) xs[j]/\ds.getD j .non∈ds
 |[],xs,j,hj,h=>by
  have h:xs=[]:=by unfold cj at h;exact h
  subst h;exact absurd hj (by simp)
 |d::ds,xs,j,hj,h=>by
  unfold cj at h;obtain⟨y,ys,rfl,hd,h⟩:=h
  cases j with
  |zero=>exact⟨hd,List.mem_cons_self⟩
  |succ j =>
   obtain⟨h1,h2⟩:=cj.get (j:=j) (by simpa using hj) h;exact⟨h1,List.mem_cons_of_mem _ h2⟩
mutual
theorem ix:∀d:D,iM d d=true
 | .non=>rfl
 | .bl b=>beq_self_eq_true b
 | .int i=>beq_self_eq_true i
 | .str x=>beq_self_eq_true x
 | .lst ds=>iR ds
 | .tup ds=>iR ds
theorem iR:∀ds:List D,eE ds ds=true
 |[]=>rfl
 |d::ds=>by show(iM d d&&eE ds ds)=true;rw[ix d,iR ds];rfl
end
section
variable {X:Cx}{pins:List (Addr×Obj)}{σ:St}{H:Hp}{s:Fp}
theorem gb (I:Inv X pins σ H s){ys:List V}(h1:ba X.K H a xs)(h2:bx X.K H a ys):False:=by
 obtain⟨its,_,p1,_⟩:=I.list h1;obtain⟨FZ,_,p2,_⟩:=I.tuple h2;exact SeqAt.ne_of_list_tuple p1.isList (show s.heap.IsTuple a FZ.toArray from p2) rfl
mutual
theorem ll (I:Inv X pins σ H s):∀(d e:D)(v:V),aX X.K H d v->aX X.K H e v->iM d e=true
 | .non,e,v,h1,h2=>by
   unfold aX at h1;subst h1
   cases e <;> unfold aX at h2 <;> first|(obtain⟨_,_,z,_⟩:=h2;cases z;done)|rfl|(cases h2;done)
 | .bl b,e,v,h1,h2=>by
   unfold aX at h1;subst h1
   cases e <;> unfold aX at h2 <;> first|(obtain⟨_,_,z,_⟩:=h2;cases z;done)|(cases h2;exact ix _)|(cases h2;done)
 | .int b,e,v,h1,h2=>by
   unfold aX at h1;subst h1
   cases e <;> unfold aX at h2 <;> first|(obtain⟨_,_,z,_⟩:=h2;cases z;done)|(cases h2;exact ix _)|(cases h2;done)
 | .str b,e,v,h1,h2=>by
   unfold aX at h1;subst h1
   cases e <;> unfold aX at h2 <;> first|(obtain⟨_,_,z,_⟩:=h2;cases z;done)|(cases h2;exact ix _)|(cases h2;done)
 | .lst ds,e,v,h1,h2=>by
   unfold aX at h1;obtain⟨a,xs,rfl,q,r⟩:=h1
   cases e with
   |lst es =>
    unfold aX at h2;obtain⟨b,ys,z,q2,r2⟩:=h2
    cases z
    have e:=I.aaB q q2;subst e;exact iX I ds es xs r r2
   |tup es =>
    unfold aX at h2;obtain⟨b,ys,z,q2,r2⟩:=h2
    cases z
    exact(gb I q q2).elim
   |_=>unfold aX at h2;cases h2
 | .tup ds,e,v,h1,h2=>by
   unfold aX at h1;obtain⟨a,xs,rfl,q,r⟩:=h1
   cases e with
   |tup es =>
    unfold aX at h2;obtain⟨b,ys,z,q2,r2⟩:=h2
    cases z
    have e:=I.aaF q q2;subst e;exact iX I ds es xs r r2
   |lst es =>
    unfold aX at h2;obtain⟨b,ys,z,q2,r2⟩:=h2
    cases z
    exact(gb I q2 q).elim
   |_=>unfold aX at h2;cases h2
theorem iX (I:Inv X pins σ H s):∀(ds es:List D)(xs:List V),cj X.K H ds xs->cj X.K H es xs->eE ds es=true
 |[],es,xs,h1,h2=>by
  unfold cj at h1;subst h1
  cases es with
  |nil=>rfl
  |cons e es=>unfold cj at h2;obtain⟨_,_,z,_⟩:=h2;cases z
 |d::ds,es,xs,h1,h2=>by
  unfold cj at h1;obtain⟨y,ys,rfl,hd,h1⟩:=h1
  cases es with
  |nil=>unfold cj at h2;cases h2
  |cons e es =>
   unfold cj at h2;obtain⟨_,_,z,he,h2⟩:=h2
   cases z
   show(iM d e&&eE ds es)=true;rw[ll I d e y hd he,iX I ds es ys h1 h2];rfl
end
theorem kg (I:Inv X pins σ H s)(n:Nat)(ih:n≠0->∀(A:Around)(d e:D)(x y:V)(u v:Value),pC d<=n-1->A.units+(n-1)<cLine->aX X.K H d x->aX X.K H e y->aD x u->aD y v->SeqAt.EqAt A s u v (iM d e))
 (Zb:n≠0)(A:Around)(hu:A.units+n<cLine){ds es:List D}{ys:List V}{its FZ:xF}(r1:cj X.K H ds xs)(r2:cj X.K H es ys)(rv:aR xs its)(Hy:aR ys FZ)(hn:lE ds<=n-1):
 ∀j (h1:j<its.toArray.size)(h2:j<FZ.toArray.size),SeqAt.EqAt A.in1 s its.toArray[j] FZ.toArray[j] (iM (ds.getD j .non) (es.getD j .non)):=by
 intro j h1 h2
 have e1:j<xs.length:=by rw[rv.length];simpa using h1
 have e2:j<ys.length:=by rw[Hy.length];simpa using h2
 obtain⟨d1,m1⟩:=r1.get e1;obtain⟨d2,m2⟩:=r2.get e2;obtain⟨u,Zc,ru⟩:=rv.get (List.getElem?_eq_getElem e1);obtain⟨v,Zd,Sz⟩:=Hy.get (List.getElem?_eq_getElem e2)
 have z1:its.toArray[j]=u:=by
  have:=List.getElem?_eq_some_iff.mp Zc;obtain⟨_,q⟩:=this;simpa using q
 have z2:FZ.toArray[j]=v:=by
  have:=List.getElem?_eq_some_iff.mp Zd;obtain⟨_,q⟩:=this;simpa using q
 rw[z1,z2];exact ih Zb A.in1 _ _ _ _ _ _ (Nat.le_trans (qX m1) hn) (by show A.units+1+(n-1)<cLine;omega) d1 d2 ru Sz
theorem lK (I:Inv X pins σ H s)(n:Nat)(ih:n≠0->∀(A:Around)(d e:D)(x y:V)(u v:Value),pC d<=n-1->A.units+(n-1)<cLine->aX X.K H d x->aX X.K H e y->aD x u->aD y v->SeqAt.EqAt A s u v (iM d e))
 (A:Around)(d e:D)(x y:V)(u v:Value)(hn:pC d<=n)(hu:A.units+n<cLine)(h1:aX X.K H d x)(h2:aX X.K H e y)(rx:aD x u)(ry:aD y v):
 SeqAt.RcAt A s u v (iM d e)/\SeqAt.EqAt A s u v (iM d e)/\SeqAt.RcNeAt A s u v (!iM d e):=by
 have F5:A.units<cLine:=by omega
 cases d with
 |non =>
  unfold aX at h1;subst h1
  cases rx
  cases e with
  |non =>
   unfold aX at h2;subst h2
   cases ry
   exact⟨.none_none,.same _,.none_none⟩
  |bl q =>
   unfold aX at h2;subst h2
   cases ry
   exact⟨.none_bool q,.none_bool q,.none_bool q⟩
  |int q =>
   unfold aX at h2;subst h2;obtain⟨tq,rfl⟩:=ry;exact⟨.none_int q tq,.none_int q tq,.none_int q tq⟩
  |str q =>
   unfold aX at h2;subst h2;obtain⟨tq,rfl⟩:=ry;exact⟨.none_str q tq,.none_str q tq,.none_str q tq⟩
  |lst es =>
   unfold aX at h2;obtain⟨b,ys,rfl,q2,r2⟩:=h2
   cases ry
   obtain⟨FZ,Hy,p2,_⟩:=I.list q2;exact⟨.none_list  p2.isList F5,.none_list  p2.isList F5,.none_list  p2.isList F5⟩
  |tup es =>
   unfold aX at h2;obtain⟨b,ys,rfl,q2,r2⟩:=h2
   cases ry
   obtain⟨FZ,Hy,p2,_⟩:=I.tuple q2;have p2:s.heap.IsTuple b FZ.toArray:=p2;exact⟨.none_tuple  p2 F5,.none_tuple  p2 F5,.none_tuple  p2 F5⟩
 |bl p =>
  unfold aX at h1;subst h1
  cases rx
  cases e with
  |non =>
   unfold aX at h2;subst h2
   cases ry
   exact⟨.bool_none p,.bool_none p,.bool_none p⟩
  |bl q =>
   unfold aX at h2;subst h2
   cases ry
   exact⟨.bool_bool p q,.bool_bool p q,.bool_bool p q⟩
  |int q =>
   unfold aX at h2;subst h2;obtain⟨tq,rfl⟩:=ry;exact⟨.bool_int p q tq,.bool_int p q tq,.bool_int p q tq⟩
  |str q =>
   unfold aX at h2;subst h2;obtain⟨tq,rfl⟩:=ry;exact⟨.bool_str p q tq,.bool_str p q tq,.bool_str p q tq⟩
  |lst es =>
   unfold aX at h2;obtain⟨b,ys,rfl,q2,r2⟩:=h2
   cases ry
   obtain⟨FZ,Hy,p2,_⟩:=I.list q2;exact⟨.bool_list p p2.isList F5,.bool_list p p2.isList F5,.bool_list p p2.isList F5⟩
  |tup es =>
   unfold aX at h2;obtain⟨b,ys,rfl,q2,r2⟩:=h2
   cases ry
   obtain⟨FZ,Hy,p2,_⟩:=I.tuple q2;have p2:s.heap.IsTuple b FZ.toArray:=p2;exact⟨.bool_tuple p p2 F5,.bool_tuple p p2 F5,.bool_tuple p p2 F5⟩
 |int p =>
  unfold aX at h1;subst h1;obtain⟨tp,rfl⟩:=rx
  cases e with
  |non =>
   unfold aX at h2;subst h2
   cases ry
   exact⟨.int_none p tp,.int_none p tp,.int_none p tp⟩
  |bl q =>
   unfold aX at h2;subst h2
   cases ry
   exact⟨.int_bool p tp q,.int_bool p tp q,.int_bool p tp q⟩
  |int q =>
   unfold aX at h2;subst h2;obtain⟨tq,rfl⟩:=ry;exact⟨.int_int p tp q tq,.int_int p tp q tq,.int_int p tp q tq⟩
  |str q =>
   unfold aX at h2;subst h2;obtain⟨tq,rfl⟩:=ry;exact⟨.int_str p tp q tq,.int_str p tp q tq,.int_str p tp q tq⟩
  |lst es =>
   unfold aX at h2;obtain⟨b,ys,rfl,q2,r2⟩:=h2
   cases ry
   obtain⟨FZ,Hy,p2,_⟩:=I.list q2;exact⟨.int_list p tp p2.isList F5,.int_list p tp p2.isList F5,.int_list p tp p2.isList F5⟩
  |tup es =>
   unfold aX at h2;obtain⟨b,ys,rfl,q2,r2⟩:=h2
   cases ry
   obtain⟨FZ,Hy,p2,_⟩:=I.tuple q2;have p2:s.heap.IsTuple b FZ.toArray:=p2;exact⟨.int_tuple p tp p2 F5,.int_tuple p tp p2 F5,.int_tuple p tp p2 F5⟩
 |str p =>
  unfold aX at h1;subst h1;obtain⟨tp,rfl⟩:=rx
  cases e with
  |non =>
   unfold aX at h2;subst h2
   cases ry
   exact⟨.str_none p tp,.str_none p tp,.str_none p tp⟩
  |bl q =>
   unfold aX at h2;subst h2
   cases ry
   exact⟨.str_bool p tp q,.str_bool p tp q,.str_bool p tp q⟩
  |int q =>
   unfold aX at h2;subst h2;obtain⟨tq,rfl⟩:=ry;exact⟨.str_int p tp q tq,.str_int p tp q tq,.str_int p tp q tq⟩
  |str q =>
   unfold aX at h2;subst h2;obtain⟨tq,rfl⟩:=ry;exact⟨.str_str p tp q tq,.str_str p tp q tq,.str_str p tp q tq⟩
  |lst es =>
   unfold aX at h2;obtain⟨b,ys,rfl,q2,r2⟩:=h2
   cases ry
   obtain⟨FZ,Hy,p2,_⟩:=I.list q2;exact⟨.str_list p tp p2.isList F5,.str_list p tp p2.isList F5,.str_list p tp p2.isList F5⟩
  |tup es =>
   unfold aX at h2;obtain⟨b,ys,rfl,q2,r2⟩:=h2
   cases ry
   obtain⟨FZ,Hy,p2,_⟩:=I.tuple q2;have p2:s.heap.IsTuple b FZ.toArray:=p2;exact⟨.str_tuple p tp p2 F5,.str_tuple p tp p2 F5,.str_tuple p tp p2 F5⟩
 |lst ds =>
  unfold aX at h1;obtain⟨a,xs,rfl,q1,r1⟩:=id h1
  cases rx
  obtain⟨its,rv,p1,_⟩:=I.list q1;have p1:s.heap.IsList a its.toArray:=p1.isList
  cases e with
  |non =>
   unfold aX at h2;subst h2
   cases ry
   exact⟨.list_none  p1 F5,.list_none  p1 F5,.list_none  p1 F5⟩
  |bl q =>
   unfold aX at h2;subst h2
   cases ry
   exact⟨.list_bool q p1 F5,.list_bool q p1 F5,.list_bool q p1 F5⟩
  |int q =>
   unfold aX at h2;subst h2;obtain⟨tq,rfl⟩:=ry;exact⟨.list_int q tq p1 F5,.list_int q tq p1 F5,.list_int q tq p1 F5⟩
  |str q =>
   unfold aX at h2;subst h2;obtain⟨tq,rfl⟩:=ry;exact⟨.list_str q tq p1 F5,.list_str q tq p1 F5,.list_str q tq p1 F5⟩
  |lst es =>
   unfold aX at h2;obtain⟨b,ys,rfl,q2,r2⟩:=id h2
   cases ry
   obtain⟨FZ,Hy,p2,_⟩:=I.list q2;have p2:s.heap.IsList b FZ.toArray:=p2.isList;have el:=kg I n ih (by unfold pC at hn;omega) A hu r1 r2 rv Hy (by unfold pC at hn;omega)
   have l1:its.toArray.size=ds.length:=by rw[List.size_toArray,<-rv.length,r1.len]
   have l2:FZ.toArray.size=es.length:=by rw[List.size_toArray,<-Hy.length,r2.len]
   have dr:=gR ds es
   have key:SeqAt.RcAt A s (.ref a) (.ref b) (eE ds es)/\SeqAt.RcNeAt A s (.ref a) (.ref b) (!eE ds es):=by
    by_cases hl:ds.length=es.length
    ·have hs:its.toArray.size=FZ.toArray.size:=by rw[l1,l2,hl]
     have z:(List.range its.toArray.size).all (λj=>iM (ds.getD j .non) (es.getD j .non))=eE ds es:=by rw[dr,l1,hl];simp
     have c1:=SeqAt.RcAt.lists p1 p2 hs F5 el;have c2:=SeqAt.RcNeAt.lists p1 p2 hs F5 el;rw[z] at c1 c2;exact⟨c1,c2⟩
    ·have z:eE ds es=false:=by rw[dr];simp[hl]
     have hs:(its.toArray.size != FZ.toArray.size)=true:=by rw[l1,l2];simpa using hl
     rw[z];exact⟨SeqAt.RcAt.lists_lengths p1 p2 hs F5,SeqAt.RcNeAt.lists_lengths p1 p2 hs F5⟩
   have Lk:iM (.lst ds) (.lst es)=eE ds es:=rfl
   by_cases Nd:a=b
   ·subst Nd;have z:=ll I (.lst ds) (.lst es) (.ref a) (by unfold aX;exact⟨a,xs,rfl,q1,r1⟩) (by unfold aX;exact⟨a,ys,rfl,q2,r2⟩);refine⟨by rw[Lk];exact key.1,by rw[z];exact .same _,by rw[Lk];exact key.2⟩
   ·rw[Lk];exact⟨key.1,.of_refs Nd key.1,key.2⟩
  |tup es =>
   unfold aX at h2;obtain⟨b,ys,rfl,q2,r2⟩:=id h2
   cases ry
   obtain⟨FZ,Hy,p2,_⟩:=I.tuple q2;have p2:s.heap.IsTuple b FZ.toArray:=p2;exact⟨.list_tuple p1 p2 F5,.list_tuple p1 p2 F5,.list_tuple p1 p2 F5⟩
 |tup ds =>
  unfold aX at h1;obtain⟨a,xs,rfl,q1,r1⟩:=id h1
  cases rx
  obtain⟨its,rv,p1,_⟩:=I.tuple q1;have p1:s.heap.IsTuple a its.toArray:=p1
  cases e with
  |non =>
   unfold aX at h2;subst h2
   cases ry
   exact⟨.tuple_none  p1 F5,.tuple_none  p1 F5,.tuple_none  p1 F5⟩
  |bl q =>
   unfold aX at h2;subst h2
   cases ry
   exact⟨.tuple_bool q p1 F5,.tuple_bool q p1 F5,.tuple_bool q p1 F5⟩
  |int q =>
   unfold aX at h2;subst h2;obtain⟨tq,rfl⟩:=ry;exact⟨.tuple_int q tq p1 F5,.tuple_int q tq p1 F5,.tuple_int q tq p1 F5⟩
  |str q =>
   unfold aX at h2;subst h2;obtain⟨tq,rfl⟩:=ry;exact⟨.tuple_str q tq p1 F5,.tuple_str q tq p1 F5,.tuple_str q tq p1 F5⟩
  |lst es =>
   unfold aX at h2;obtain⟨b,ys,rfl,q2,r2⟩:=id h2
   cases ry
   obtain⟨FZ,Hy,p2,_⟩:=I.list q2;have p2:s.heap.IsList b FZ.toArray:=p2.isList;exact⟨.tuple_list p1 p2 F5,.tuple_list p1 p2 F5,.tuple_list p1 p2 F5⟩
  |tup es =>
   unfold aX at h2;obtain⟨b,ys,rfl,q2,r2⟩:=id h2
   cases ry
   obtain⟨FZ,Hy,p2,_⟩:=I.tuple q2;have p2:s.heap.IsTuple b FZ.toArray:=p2;have el:=kg I n ih (by unfold pC at hn;omega) A hu r1 r2 rv Hy (by unfold pC at hn;omega)
   have l1:its.toArray.size=ds.length:=by rw[List.size_toArray,<-rv.length,r1.len]
   have l2:FZ.toArray.size=es.length:=by rw[List.size_toArray,<-Hy.length,r2.len]
   have dr:=gR ds es
   have key:SeqAt.RcAt A s (.ref a) (.ref b) (eE ds es)/\SeqAt.RcNeAt A s (.ref a) (.ref b) (!eE ds es):=by
    have z:((List.range (min its.toArray.size FZ.toArray.size)).all (λj=>iM (ds.getD j .non) (es.getD j .non))&&its.toArray.size==FZ.toArray.size)=eE ds es:=by rw[dr,l1,l2]
    have c1:=SeqAt.RcAt.tuples p1 p2 F5 el;have c2:=SeqAt.RcNeAt.tuples p1 p2 F5 el;rw[z] at c1 c2;exact⟨c1,c2⟩
   have Lk:iM (.tup ds) (.tup es)=eE ds es:=rfl
   by_cases Nd:a=b
   ·subst Nd;have z:=ll I (.tup ds) (.tup es) (.ref a) (by unfold aX;exact⟨a,xs,rfl,q1,r1⟩) (by unfold aX;exact⟨a,ys,rfl,q2,r2⟩);refine⟨by rw[Lk];exact key.1,by rw[z];exact .same _,by rw[Lk];exact key.2⟩
   ·rw[Lk];exact⟨key.1,.of_refs Nd key.1,key.2⟩
theorem mq (I:Inv X pins σ H s):∀(n:Nat)(A:Around)(d e:D)(x y:V)(u v:Value),pC d<=n->A.units+n<cLine->aX X.K H d x->aX X.K H e y->aD x u->aD y v →
 SeqAt.RcAt A s u v (iM d e)/\SeqAt.EqAt A s u v (iM d e)/\SeqAt.RcNeAt A s u v (!iM d e):=by
 intro n
 induction n with
 |zero=>exact λA d e x y u v hn hu h1 h2 rx ry=>lK I 0 (λz=>absurd z (by simp)) A d e x y u v hn hu h1 h2 rx ry
 |succ n ih=>exact λA d e x y u v hn hu h1 h2 rx ry=>lK I (n+1) (λ_ A d e x y u v hn hu h1 h2 rx ry=>(ih A d e x y u v hn hu h1 h2 rx ry).2.1) A d e x y u v hn hu h1 h2 rx ry
end
section
variable {X:Cx}
noncomputable def CI (K:Frag)(neg:Bool):R2:=λx y H Q=>∃d e,aX K H d x/\aX K H e y/\pC d<=32/\Q (.bl (iM d e != neg)) H
theorem Bf (hr:Fq k X.A):gF X (compareOp .NotEq) (CI X.K true):=by
 intro pins s σ H x y v u Q I rx ry h;obtain⟨d,e,h1,h2,hd,q⟩:=h;have z:=(mq I 32 X.A d e x y v u hd (by have:=hr.units;omega) h1 h2 rx ry).2.2
 exact z X.prog X.w X.xe _ ⟨.bl (!iM d e),H,I,rfl,by
  have e1:(iM d e != true) = !iM d e:=by cases iM d e <;> rfl
  rw[e1] at q
  exact q⟩
end
end L2
namespace Nm
noncomputable def df (a b:Int):Int:=(Int.gcd a b:Int)
noncomputable def dv (t b:Int):Int:=if b<0 then -(df t b) else df t b
noncomputable def dZ (t b:Int):Int:=t.fdiv (dv t b)
noncomputable def cR (t b:Int):Int:=b.fdiv (dv t b)
variable {b:Int}
theorem eY {t:Int}(h:b≠0):0<df t b:=by
 unfold df;have:0<Int.gcd t b:=Int.gcd_pos_of_ne_zero_right _ h;omega
theorem lS {t:Int}(h:b≠0):dv t b≠0:=by
 have:=eY (t:=t) h;unfold dv
 split <;> omega
theorem EB {t:Int}:dv t b ∣ t:=by
 unfold dv df
 split
 ·exact Int.neg_dvd.mpr (Int.gcd_dvd_left ..)
 ·exact Int.gcd_dvd_left ..
theorem Dz {t:Int}:dv t b ∣ b:=by
 unfold dv df
 split
 ·exact Int.neg_dvd.mpr (Int.gcd_dvd_right ..)
 ·exact Int.gcd_dvd_right ..
theorem oS {a:Int}(h:b ∣ a)(hb:b≠0):a.fdiv b*b=a:=by
 obtain⟨c,rfl⟩:=h;rw[Int.mul_fdiv_cancel_left _ hb,Int.mul_comm]
theorem sv {t:Int}(h:b≠0):dZ t b*dv t b=t:=oS EB (lS h)
theorem lY {t:Int}(h:b≠0):cR t b*dv t b=b:=oS Dz (lS h)
theorem nJ {t:Int}(h:b≠0):0<cR t b:=by
 have e:=lY (t:=t) h;have g:=eY (t:=t) h
 by_cases hb:b<0
 ·have hd:dv t b = -(df t b):=by unfold dv;rw[if_pos hb]
  rw[hd] at e
  by_cases hl:0<cR t b
  ·exact hl
  ·have:0<=cR t b * -(df t b):=by
    have:=Int.mul_nonneg_of_nonpos_of_nonpos (a:=cR t b) (b:=-(df t b)) (by omega) (by omega);exact this
   omega
 ·have hd:dv t b=df t b:=by unfold dv;rw[if_neg hb]
  rw[hd] at e
  by_cases hl:0<cR t b
  ·exact hl
  ·have:cR t b*df t b<=0:=Int.mul_nonpos_of_nonpos_of_nonneg (by omega) (by omega);omega
theorem mD {t:Int}:(dv t b).natAbs=Int.gcd t b:=by
 unfold dv df
 split <;> simp
theorem rM {t:Int}(h:b≠0):Int.gcd (dZ t b) (cR t b)=1:=by
 have e1:=sv (t:=t) h;have e2:=lY (t:=t) h;have g:0<Int.gcd t b:=Int.gcd_pos_of_ne_zero_right _ h;have e3:Int.gcd (dZ t b*dv t b) (cR t b*dv t b)=Int.gcd (dZ t b) (cR t b)*(dv t b).natAbs:=Int.gcd_mul_right ..;rw[e1,e2,mD] at e3
 have:Int.gcd (dZ t b) (cR t b)*Int.gcd t b=1*Int.gcd t b:=by omega
 exact Nat.eq_of_mul_eq_mul_right g this
theorem pX {t t' b':Int}(h:b≠0)(hp:0<b')(hg:Int.gcd t' b'=1)(he:t*b'=t'*b):dZ t b=t'/\cR t b=b':=by
 have e1:=sv (t:=t) h;have e2:=lY (t:=t) h;have g:=lS (t:=t) h;have lp:=nJ (t:=t) h;have lg:=rM (t:=t) h
 have e3:dZ t b*b'=t'*cR t b:=by
  have z:(dZ t b*b')*dv t b=(t'*cR t b)*dv t b:=by
   rw[Int.mul_right_comm,e1,he,Int.mul_assoc,e2]
  exact Int.eq_of_mul_eq_mul_right g z
 have n3:(dZ t b).natAbs*b'.natAbs=t'.natAbs*(cR t b).natAbs:=by
  have:=congrArg Int.natAbs e3;rw[Int.natAbs_mul,Int.natAbs_mul] at this;exact this
 have c1:Nat.Coprime (cR t b).natAbs (dZ t b).natAbs:=by
  rw[Nat.coprime_comm];exact lg
 have c2:Nat.Coprime b'.natAbs t'.natAbs:=by
  rw[Nat.coprime_comm];exact hg
 have d1:(cR t b).natAbs ∣ b'.natAbs:=c1.dvd_of_dvd_mul_left ⟨t'.natAbs,by rw[n3,Nat.mul_comm]⟩;have d2:b'.natAbs ∣ (cR t b).natAbs:=c2.dvd_of_dvd_mul_left ⟨(dZ t b).natAbs,by rw[<-n3,Nat.mul_comm]⟩;have e4:(cR t b).natAbs=b'.natAbs:=Nat.dvd_antisymm d1 d2
 have e5:cR t b=b':=by omega
 refine⟨?_,e5⟩;rw[e5] at e3;exact Int.eq_of_mul_eq_mul_right (by omega) e3
theorem n9 {t b:Int}(hp:0<b)(hg:Int.gcd t b=1):dZ t b=t/\cR t b=b:=pX (by omega) hp hg rfl
theorem om (a b:Int):Int.gcd b (a.fmod b)=Int.gcd a b:=by
 rw[Int.fmod_def,Int.gcd_comm a b]
 first
  |exact Int.gcd_sub_mul_left_right ..
  |simp
theorem rS (a b:Int)(h:b≠0):(a.fmod b).natAbs<b.natAbs:=by
 by_cases hb:0<b
 ·have h1:=Int.fmod_lt_of_pos a hb;have h2:=Int.fmod_nonneg_of_pos a hb;omega
 ·have e:a.fmod b = -((-a).fmod (-b)):=by
   have:=Int.fmod_def a b;rw[Int.neg_fmod_neg];omega
  have h1:=Int.fmod_lt_of_pos (-a) (b:=-b) (by omega);have h2:=Int.fmod_nonneg_of_pos (-a) (b:=-b) (by omega);omega
noncomputable def sg (b:Int):Int:=if b<0 then -1 else 1
noncomputable def ab (b:Int):Int:=if b<0 then -b else b
theorem lj (b:Int):ab b=(b.natAbs:Int):=by unfold ab;split <;> omega
theorem Cp {t:Int}(h:b≠0):(sg b*t).fdiv (df t b)=dZ t b:=by
 have g:=eY (t:=t) h;have e:=sv (t:=t) h
 have z:sg b*t=dZ t b*df t b:=by
  unfold sg dv at *
  split
  ·rename_i hb
   rw[if_pos hb] at e
   have:dZ t b * -df t b = -(dZ t b*df t b):=by rw[Int.mul_neg]
   omega
  ·rename_i hb
   rw[if_neg hb] at e;omega
 rw[z,Int.mul_fdiv_cancel _ (by omega)]
theorem B7 {t:Int}(h:b≠0):(ab b).fdiv (df t b)=cR t b:=by
 have g:=eY (t:=t) h;have e:=lY (t:=t) h
 have z:ab b=cR t b*df t b:=by
  unfold ab dv at *
  split
  ·rename_i hb
   rw[if_pos hb] at e
   have:cR t b * -df t b = -(cR t b*df t b):=by rw[Int.mul_neg]
   omega
  ·rename_i hb
   rw[if_neg hb] at e;omega
 rw[z,Int.mul_fdiv_cancel _ (by omega)]
theorem zM (a b:Int):Int.gcd (ab a) (ab b)=Int.gcd a b:=by
 rw[lj,lj];simp[Int.gcd]
noncomputable def B (n:Nat)(i:Int):Prop:=i.natAbs<2^n
variable {n:Nat}{i:Int}
theorem B.mono {m:Nat}(h:B n i)(hn:n<=m):B m i:=Nat.lt_of_lt_of_le h (Nat.pow_le_pow_right (by decide) hn)
variable {j:Int}
theorem B.mul {m:Nat}(h:B n i)(k:B m j):B (n+m) (i*j):=by
 unfold B at *;rw[Int.natAbs_mul,Nat.pow_add];exact Nat.mul_lt_mul'' h k
theorem B.add (h:B n i)(k:B n j):B (n+1) (i+j):=by
 unfold B at *;rw[Nat.pow_succ];have:=Int.natAbs_add_le i j;omega
theorem B.le (h:B n i)(k:j.natAbs<=i.natAbs):B n j:=Nat.lt_of_le_of_lt k h
theorem qL {x d y:Int}(e:x*d=y)(hd:d≠0):x.natAbs<=y.natAbs:=by
 have:x.natAbs*d.natAbs=y.natAbs:=by rw[<-Int.natAbs_mul,e]
 have h1:1<=d.natAbs:=by omega
 calc x.natAbs=x.natAbs*1:=(Nat.mul_one _).symm
  _<=x.natAbs*d.natAbs:=Nat.mul_le_mul_left _ h1
  _=y.natAbs:=this
theorem rK {t:Int}(h:b≠0):(dZ t b).natAbs<=t.natAbs:=qL (sv h) (lS h)
theorem sJ {t:Int}(h:b≠0):(cR t b).natAbs<=b.natAbs:=qL (lY h) (lS h)
theorem zr {t:Int}(h:b≠0):(dv t b).natAbs<=b.natAbs:=by
 have e:=lY (t:=t) h;have lp:=nJ (t:=t) h;exact qL (x:=dv t b) (d:=cR t b) (by rw[Int.mul_comm];exact e) (by omega)
theorem Ao {t:Int}(h:b≠0):(df t b).natAbs<=b.natAbs:=by
 have e:=zr (t:=t) h;rw[mD] at e;unfold df;simpa using e
structure Num (p t b:Int):Prop where
 pos:0<b
 red:Int.gcd t b=1
 pr:p≠0->b=1/\0<=t/\t<p
variable {p:Int}
theorem Num.ofP {t:Int}(h0:0<=t)(h1:t<p):Num p t 1:=⟨by decide,by simp,λ_=>⟨rfl,h0,h1⟩⟩
theorem Num.low {t:Int}(h:b≠0):Num 0 (dZ t b) (cR t b):=⟨nJ h,rM h,λz=>absurd rfl z⟩
noncomputable def fQ (p t b:Int):Int:=if p=0 then dZ t b else t%p
noncomputable def fO (p t b:Int):Int:=if p=0 then cR t b else 1
theorem Num.set {t:Int}(hp:0<=p)(h:b≠0):Num p (fQ p t b) (fO p t b):=by
 unfold fQ fO
 by_cases z:p=0
 ·subst z;simp only[if_true];exact Num.low h
 ·simp only[z,if_false];exact Num.ofP (Int.emod_nonneg _ z) (Int.emod_lt_of_pos _ (by omega))
theorem Num.self {t:Int}(n:Num p t b)(hp:0<=p):fQ p t b=t/\fO p t b=b:=by
 unfold fQ fO
 by_cases z:p=0
 ·simp only[z,if_true];exact n9 n.pos n.red
 ·simp only[z,if_false];obtain⟨h1,h2,h3⟩:=n.pr z;exact⟨Int.emod_eq_of_lt h2 h3,h1.symm⟩
end Nm
namespace L2
open PySem PySem.Spec PyProof.Rows PySem.W
variable {i:Int}
theorem zo (h:Nm.B 9000 i):i.natAbs.log2<9000:=by
 by_cases z:i.natAbs=0
 ·rw[z];decide
 ·exact(Nat.log2_lt z).mpr h
theorem xh (h:Nm.B 9000 i):Builtin.Int.intBits i<=2^20:=by
 have l:=zo h;unfold Builtin.Int.intBits
 split
 ·exact Nat.zero_le _
 ·have:(9000:Nat)<=2^20:=by decide
  omega
section
variable {X:Cx}
theorem eV:gF X (binaryOp .FloorDiv) (rI (λ_ j=>j≠0/\Nm.B 9000 j) λi j=>.int (i.fdiv j)):=Ae λ_ _ _ _ _ _ _ hc q=>floordiv_int hc.1 q (.inl (PyProof.noPylong_of_log2 (zo hc.2)))
theorem dh:gF X (binaryOp .Mult) (rI (λi j=>Nm.B 9000 i/\Nm.B 9000 j) λi j=>.int (i*j)):=Ae λ_ _ _ _ _ _ _ hc q=>mul_int q (IntMulOk.of_bits (xh hc.1) (xh hc.2))
end
noncomputable def zW:Expr->Option Int
 | .Constant (.int i) _ _=>some i
 |_=>none
theorem y8 {e:Expr}(h:zW e=some i):∃k p,e = .Constant (.int i) k p:=by
 unfold zW at h
 split at h
 ·cases h
  exact⟨_,_,rfl⟩
 ·cases h
noncomputable def rH:List Expr->Option (List Int)
 |[]=>some []
 |e::es=>(zW e).bind λi=>(rH es).map (i :: ·)
noncomputable def C4 (ns:List Int):TA:=λ_ H Q=>Q (ns.map V.int) H
theorem qP {X:Cx}:∀{es:wW}{ns:List Int},rH es=some ns->PA X es (C4 ns)
 |[],ns,h=>by
  cases h
  exact ag
 |x::es,ns,h=>by
  unfold rH at h;obtain⟨i,hi,h⟩:=Option.bind_eq_some_iff.mp h;obtain⟨ms,e,rfl⟩:=Option.map_eq_some_iff.mp h;obtain⟨k,p,rfl⟩:=y8 hi;exact aj (ah (j:=k) (pos:=p)) (qP e)
noncomputable def CQ (ns:List Int):TE:=λ_ H Q=>∀p,H p=none->Q (.ref p) (upd H p (.lst (ns.map V.int)))
theorem m9 {X:Cx}{es:wW}{pos:Pos}{ns:List Int}(h:rH es=some ns)(hl:ns.length<=1000):PE X (.List es pos) (CQ ns):=by
 intro pins s σ H Q I q;refine cy (qP h) pins s σ H Q I ?_;refine⟨?_,q⟩;rw[List.length_map];exact Nat.le_of_lt (uB hl)
end L2
namespace K26
open PySem L2 PySem.W Nm
noncomputable abbrev BK:Stmt:=(aJ 26)
noncomputable abbrev sf:Stmt:=(aJ 27)
noncomputable def cA (t b:Int):HO:=.tup [.int t,.int b]
noncomputable def Ba:Sp:=λvs H Q _=>∃a b:Int,vs=[.int a,.int b]/\Q (.int (df a b)) H
noncomputable def iL:Sp:=λvs H Q _=>∃t b:Int,vs=[.int t,.int b]/\b≠0/\B 9000 b/\∀p,H p=none->Q (.ref p) (upd H p (cA (dZ t b) (cR t b)))
variable {p:Int}
theorem l5 (h:p∈Br):2<=p/\p<=97:=by
 have:∀q∈Br,2<=q/\q<=97:=by decide
 exact this p h
variable {P:zO}{w:World}{K:PySem.W.Frag}{mg:yN}{base:Heap}
theorem zi:yd oo oo (ak BK):=c9 (by decide +kernel)
variable {f:Addr}{fd:vH}
theorem A3 (F:xR K "common_divisor" "common_divisor" BK f fd)(mA:mg "abs"=none):Ef P w K mg base (aO P w) 1 f fd oo Ba:=by
 refine F.okN zi (λvs H Q E h=>?_) (λFV A outer s H vs Q E hr h=>?_)
 ·obtain⟨a,b,rfl,_⟩:=h;rfl
 ·obtain⟨a,b,rfl,q⟩:=h
  refine⟨_,ao (nW PassesOwn.never (j9 (pv 1) (λ_=>rfl)) (au (vk (i:=0) (j:=1) rfl zi.nd rfl rfl (by decide) rfl rfl (aj (pv 1) (aj (aH rL (pv 0) (pv 1)) ag)) rfl)))
   (au (ay (aB ie (by rfl) mA (by rfl) (aj (pv 0) ag)))),?_⟩
  refine⟨λm σ H'=>∃c d:Int,σ=[some (.int c),some (.int d)]/\H'=H/\m=d.natAbs/\Int.gcd c d=Int.gcd a b,⟨_,a,b,rfl,rfl,rfl,rfl⟩,?_⟩;rintro m σ H' ⟨c,d,rfl,rfl,rfl,hg⟩;refine⟨_,rfl,_,rfl,?_⟩;refine cp (λh=>?_) (λh=>?_)
  ·have hd:d≠0:=by simpa using h
   refine⟨λσ' Iw=>∃c' d':Int,σ'=[some (.int c'),some (.int d')]/\Iw=H'/\d'.natAbs<d.natAbs/\Int.gcd c' d'=Int.gcd a b,λσ' Iw ⟨c',d',e1,e2,e3,e4⟩=>⟨_,e3,c',d',e1,e2,rfl,e4⟩,?_⟩;refine⟨_,rfl,_,rfl,_,rfl,_,_,rfl,rfl,hd,_,_,rfl,d,c.fmod d,rfl,rfl,rS c d hd,?_⟩;rw[om,hg]
  ·have hd:d=0:=by simpa using h
   subst hd;refine⟨_,rfl,c,rfl,?_⟩
   have e:(if c<0 then -c else c)=df a b:=by
    unfold df;rw[<-hg];have:=lj c;unfold ab at this;rw[this];simp
   rw[e];exact q
theorem k9:yd ["top","bottom","divisor"] tP (ak sf):=c9 (by decide +kernel)
theorem tV {fg:Addr}{Kj:vH}(F:xR K "lowest" "lowest" sf f fd)(FG:Ef P w K mg base (aO P w) 1 fg Kj oo Ba)(bG:L2.az K Kj oo [])(mG:mg "common_divisor"=some (.ref fg))(kG:keepIn K (.ref fg)=true):
 Ef P w K mg base (aO P w) 2 f fd tP iL:=by
 refine F.okN k9 (λvs H Q E h=>?_) (λFV A outer s H vs Q E hr h=>?_)
 ·obtain⟨a,b,rfl,_⟩:=h;rfl
 ·obtain⟨t,b,rfl,hb,hB,q⟩:=h
  refine⟨_,ao (bc (aI du (pv 1) ah (aK _)) (au (ay (bO (aj (pv 0) (aj ah ag))))) aF)
   (ao (aM (i:=2) k9.nd rfl (Or.inl rfl) (av FG hr (by rfl) mG kG bG .nil af (aj (pv 0) (aj (pv 1) ag))))
   (ao (bc (aI jE (pv 1) ah (aK _)) (au (aM (i:=2) k9.nd rfl (Or.inl rfl) (vT pZ (pv 2)))) aF)
   (au (ay (bO (aj (aH eV (pv 0) (pv 2)) (aj (aH eV (pv 1) (pv 2)) ag))))))),?_⟩
  refine⟨_,rfl,rfl,_,rfl,?_⟩;refine cp (λh=>?_) (λh=>?_)
  ·have e:b=1:=by simpa using h
   subst e;have z:=n9 (t:=t) (b:=1) (by decide) (by simp);refine⟨_,rfl,ic,λp hp=>?_⟩;have y:=q p hp;rw[z.1,z.2] at y;exact y
  ·refine⟨_,rfl,_,rfl,t,b,rfl,?_⟩;refine⟨_,rfl,_,_,rfl,rfl,_,rfl,?_⟩;have gp:=eY (t:=t) hb
   have fin:∀d:Int,d=dv t b->yq (aQ (jB (rI (λ_ j=>j≠0/\Nm.B 9000 j) λi j=>V.int (i.fdiv j)) (cC 0) (cC 2)) (aQ (jB (rI (λ_ j=>j≠0/\Nm.B 9000 j) λi j=>V.int (i.fdiv j)) (cC 1) (cC 2)) tW)) [some (.int t),some (.int b),some (.int d)] H Q:=by
    intro d hd
    have Ru:d≠0:=by rw[hd];exact lS hb
    have WT:B 9000 d:=by rw[hd];exact hB.le (zr hb)
    refine⟨_,rfl,_,rfl,_,_,rfl,rfl,⟨Ru,WT⟩,_,rfl,_,rfl,_,_,rfl,rfl,⟨Ru,WT⟩,ic,λp hp=>?_⟩;have y:=q p hp;unfold dZ cR at y;rw[<-hd] at y;exact y
   refine cp (λh2=>?_) (λh2=>?_)
   ·have e:b<0:=by simpa using h2
    exact⟨_,rfl,_,rfl,fin _ (by unfold dv;rw[if_pos e])⟩
   ·have e:¬b<0:=by simpa using h2
    exact fin _ (by unfold dv;rw[if_neg e])
noncomputable abbrev u7:Stmt:=(aJ 13)
noncomputable abbrev wM:Stmt:=bq (aJ 30) 0
inductive Th (H:Hp):V->String->Prop where
 |non:Th H .non "NoneType"
 |bl (b:Bool):Th H (.bl b) "bool"
 |int (i:Int):Th H (.int i) "int"
 |str (x:Str):Th H (.str x) "str"
 |lst {a:Addr}{xs:List V}(e:H a=some (.lst xs)):Th H (.ref a) "list"
 |tup {a:Addr}{xs:List V}(e:H a=some (.tup xs)):Th H (.ref a) "tuple"
 |dK {a:Addr}{FQ:List (Key×V)}(e:H a=some (.dK FQ)):Th H (.ref a) "dict"
variable {K:Frag}{H:Hp}{x:V}{T:String}
theorem Th.ty (h:Th H x T):DM K H x (.type T):=by
 cases h with
 |non=>exact .of .non
 |bl b=>exact .of (.bl b)
 |int i=>exact .of (.int i)
 |str x=>exact .of (.str x)
 |lst e=>exact .of (.lst e)
 |tup e=>exact .of (.tup e)
 |dK e=>exact .of (.dK e)
noncomputable def dH:V->Bool
 | .int _=>true
 |_=>false
noncomputable def Ct:V->Bool
 | .int _=>true
 | .bl _=>true
 |_=>false
theorem Th.isInt (h:Th H x T):kitOne K (.type T) (.type "int")=some (Ct x):=by cases h <;> rfl
theorem Th.isBool (h:Th H x T)(hi:Ct x=true):kitOne K (.type T) (.type "bool")=some (!dH x):=by
 cases h with
 |int i=>rfl
 |bl b=>rfl
 |_=>cases hi
noncomputable def t6:Sp:=λvs H Q _=>∃x T,vs=[x]/\Th H x T/\Q (.bl (dH x)) H
structure uf (mg:yN):Prop where
 isi:mg "isinstance"=none
 int:mg "int"=none
 bool:mg "bool"=none
theorem ye:yd uI uI (ak u7):=c9 (by decide +kernel)
theorem wN (F:xR K "is_whole" "is_whole" u7 f fd)(n:uf mg):Ef P w K mg base (aO P w) 1 f fd uI t6:=by
 refine F.okN ye (λvs H Q E h=>?_) (λFV A outer s H vs Q E hr h=>?_)
 ·obtain⟨x,T,rfl,_⟩:=h;rfl
 ·obtain⟨x,T,rfl,th,q⟩:=h
  refine⟨_,au (ay (dB (aB aN (by rfl) n.isi (by rfl) (aS (pv 0) (aS (cH (by rfl) n.int (by rfl) (show aD (.ty "int") (.type "int") from rfl)) ag)))
   (eF (vA (aB aN (by rfl) n.isi (by rfl) (aS (pv 0) (aS (cH (by rfl) n.bool (by rfl) (show aD (.ty "bool") (.type "bool") from rfl)) ag))))))),?_⟩
  refine⟨_,rfl,x,.ty "int",_,_,_,rfl,rfl,th.ty,th.isInt,_,rfl,?_⟩;refine cp (λhi=>?_) (λhi=>?_)
  ·refine⟨_,rfl,x,.ty "bool",_,_,_,rfl,rfl,th.ty,th.isBool hi,_,rfl,?_⟩;simpa using q
  ·have e:dH x=false:=by
    cases th <;> first|rfl|exact absurd rfl hi
   rw[e] at q;exact q
noncomputable def jl (i:Int):Bool:=i==0 || Br.any λp=>p==i
noncomputable def good:V->Bool
 | .int i=>jl i
 |_=>false
noncomputable def dR (i:Int):List (Str×V):=[("its_prime",.int i)]
noncomputable def pQ (C NF:Addr):Sp:=λvs H Q E=>∃(p dx:Addr)(x:V)(T:String),vs=[.ref p,x]/\Th H x T/\H p=some (.ins C dx [])/\(good x=true->Q .non (upd H p (.ins C dx [("its_prime",x)])))/\(good x=false->E (.ref NF) none H)
structure oO (K:Frag)(mg:yN)(C:Addr):Prop where
 cl:uU K C
 nP:cT K C "its_prime"
 mgC:mg "Field"=some (.ref C)
 isC:((clsIn K C).isSome&&typeIn K (.ref C)==some (.type "type"))=true
 ca:findIn K (.ref C) "__class__"=some (some (.builtin "object.__class__"))
 sp:specialIn K (.builtin "object.__class__") "__get__"=some (some (.builtin "getset_descriptor.__get__"))
 tk:takesIn K (.builtin "object.__class__")=some true
 ob:mroIn K C (.type "object")=some true
variable {mg:yN}{C:Addr}
theorem oO.ty (c:oO K mg C){p dx:Addr}{fs:List (Str×V)}(e:H p=some (.ins C dx fs)):DM K H (.ref p) (.ref C):=.of (.ins e c.cl c.ca c.sp c.tk c.ob)
theorem oO.is (c:oO K mg C):kitOne K (.ref C) (.ref C)=some true:=by
 unfold kitOne;rw[if_pos (by simp)]
theorem oO.no (c:oO K mg C)(h:Th H x T):kitOne K (.type T) (.ref C)=some false:=by
 show(if(Value.type T==Value.ref C)=true then some true else(if((clsIn K C).isSome&&typeIn K (.ref C)==some (.type "type"))=true then subIn K (.type T) (.ref C) else none))=some false;rw[if_neg (by intro z;cases beq_iff_eq.mp z),if_pos c.isC]
 cases h <;> rfl
theorem jR (i:Int):Bv (.int i) (Br.map V.int)=Br.any λp=>p==i:=by
 unfold Bv;rw[List.any_map];rfl
theorem zS:yd Ap Ap (ak wM):=c9 (by decide +kernel)
theorem ym {fw NF aP T:Addr}{G4:vH}{tF:Tok}(F:Ca K "__init__" "Field.__init__" wM f fd T)(c:oO K mg C)(FW:Ef P w K mg base (aO P w) 1 fw G4 uI t6)(bW:az K G4 uI [])(mW:mg "is_whole"=some (.ref fw))(kW:keepIn K (.ref fw)=true)
 (mF:mg "FRACTIONS"=some (.int 0 tF))(mP:mg "PRIMES"=some (.ref aP))(hP:∀H:Hp,bx K H aP (Br.map V.int))(mN:mg "NoField"=some (.ref NF))(qN:og K NF Bw tO=true):Ef P w K mg base (aO P w) 2 f fd Ap (pQ C NF):=by
 refine F.okE zS (λvs H Q E h=>?_) (λFV A outer s H vs Q E hr h=>?_)
 ·obtain⟨p,dx,x,T,rfl,_⟩:=h;rfl
 ·obtain⟨p,dx,x,T,rfl,th,hp,hq,hE⟩:=h
  refine⟨_,ao (bc (PW.pt (eX (bR (b8 (av FW hr (by rfl) mW kW bW .nil af (aS (pv 1) ag))))
   (dA (PW.pt (vg (aI gI (pv 1) (cz (by rfl) mF (show aD (.int 0) (.int 0 tF) from⟨_,rfl⟩)) (aK _)) (su (aI acs (pv 1) (cz (by rfl) mP (show aD (.ref aP) (.ref aP) from rfl)) (by rfl))))))))
   (au (kd PySem.F.excBase_ValueError qN rfl gO (by rfl) mN (aS cK ag))) aF)
   (au (gW (pv 0) (pv 1) rfl)),?_⟩
  have fin:good x=true->∃(a C' WU:Addr)(fs:List (Str×V)),V.ref p=.ref a/\H a=some (.ins C' WU fs)/\uU K C'/\cT K C' "its_prime"/\fs.length<1000/\Q .non (upd H a (.ins C' WU (cP "its_prime" x fs))):=λg=>⟨p,C,dx,[],rfl,hp,c.cl,c.nP,by decide,hq g⟩;refine⟨_,rfl,x,T,rfl,th,_,rfl,?_⟩
  cases th with
  |int i =>
   refine bD ?_;refine⟨_,rfl,rfl,_,rfl,?_⟩;refine cp (λh0=>?_) (λh0=>?_)
   ·refine⟨_,rfl,aP,_,rfl,.inr (hP _),rfl,rfl,_,rfl,?_⟩;refine cp (λh1=>?_) (λh1=>?_)
    ·refine⟨by decide,hE ?_⟩
     have e1:¬i=0:=by simpa using h0
     have e2:Bv (.int i) (Br.map V.int)=false:=by simpa using h1
     rw[jR] at e2;show jl i=false;unfold jl;rw[e2];simpa using e1
    ·have e2:Bv (.int i) (Br.map V.int)=true:=by simpa using h1
     rw[jR] at e2;exact⟨_,rfl,_,rfl,fin (by show jl i=true;unfold jl;rw[e2];simp)⟩
   ·have e1:i=0:=by simpa using h0
    exact bD ⟨_,rfl,_,rfl,fin (by show jl i=true;rw[e1];rfl)⟩
  |_=>exact aW (aW ⟨by decide,hE rfl⟩)
noncomputable abbrev zD:Stmt:=bq (aJ 30) 6
noncomputable abbrev pA:Stmt:=bq (aJ 30) 10
noncomputable def FP (p:Int):Prop:=p=0\/p∈Br
theorem FP.nn (h:FP p):0<=p:=by
 rcases h with h|h
 ·omega
 ·have:=l5 h;omega
theorem FP.two (h:FP p)(z:p≠0):p∈Br/\2<=p/\p<=97:=by
 rcases h with h|h
 ·exact absurd h z
 ·exact⟨h,l5 h⟩
noncomputable def lV (C:Addr):Sp:=λvs H Q _=>∃(s dx:Addr)(p t b:Int),vs=[.ref s,.int t,.int b]/\H s=some (.ins C dx (dR p))/\FP p/\B 9000 b/\b≠0/\∀a,H a=none->Q (.ref a) (upd H a (cA (fQ p t b) (fO p t b)))
noncomputable def zm (C:Addr)(g:Int->Int->Int->Int->Int):Sp:=λvs H Q _=>∃(s dx a1 a2:Addr)(p t1 b1 t2 b2:Int),vs=[.ref s,.ref a1,.ref a2]/\H s=some (.ins C dx (dR p))/\FP p/\H a1=some (cA t1 b1)/\H a2=some (cA t2 b2) /\
 B 4000 t1/\B 4000 b1/\B 4000 t2/\B 4000 b2/\b1≠0/\b2≠0/\∀a,H a=none->Q (.ref a) (upd H a (cA (fQ p (g t1 b1 t2 b2) (b1*b2)) (fO p (g t1 b1 t2 b2) (b1*b2))))
noncomputable def jg (t1 b1 t2 b2:Int):Int:=t1*b2+t2*b1
noncomputable def eG (t1 b1 t2 b2:Int):Int:=t1*t2
theorem uK:yd yJ yJ (ak pA):=c9 (by decide +kernel)
variable {fl:Addr}{Hn:vH}
theorem pS {tF:Tok}(F:xR K "settled" "Field.settled" pA f fd)(c:oO K mg C)(mF:mg "FRACTIONS"=some (.int 0 tF))
 (FL:Ef P w K mg base (aO P w) 2 fl Hn tP iL)(bL:L2.az K Hn tP [])(mL:mg "lowest"=some (.ref fl))(kL:keepIn K (.ref fl)=true):
 Ef P w K mg base (aO P w) 3 f fd yJ (lV C):=by
 refine F.okN uK (λvs H Q E h=>?_) (λFV A outer s H vs Q E hr h=>?_)
 ·obtain⟨s,dx,p,t,b,rfl,_⟩:=h;rfl
 ·obtain⟨s,dx,p,t,b,rfl,hs,hp,hB,hb,q⟩:=h
  refine⟨_,ao (bc (aI du (dF (pv 0) rfl) (cz (by rfl) mF (show aD (.int 0) (.int 0 tF) from⟨_,rfl⟩)) (aK _))
   (au (ay (av FL hr (by rfl) mL kL bL .nil af (aj (pv 1) (aj (pv 2) ag))))) aF)
   (au (ay (bO (aj (aH dU (pv 1) (dF (pv 0) rfl)) (aj ah ag))))),?_⟩
  refine⟨_,rfl,s,C,dx,_,_,rfl,hs,c.cl,c.nP,rfl,rfl,_,rfl,?_⟩;refine cp (λh=>?_) (λh=>?_)
  ·have Hg:p=0:=by simpa using h
   refine⟨_,rfl,_,rfl,t,b,rfl,hb,hB,λa ha=>?_⟩;have y:=q a ha;unfold fQ fO at y;rw[if_pos Hg,if_pos Hg] at y;exact y
  ·have Hg:p≠0:=by simpa using h
   obtain⟨Nf,p2,SA⟩:=hp.two Hg;refine⟨_,rfl,_,rfl,s,C,dx,_,_,rfl,hs,c.cl,c.nP,rfl,_,_,rfl,rfl,(by show(0:Int)<p;omega),ic,λa ha=>?_⟩;have y:=q a ha;unfold fQ fO at y;rw[if_neg Hg,if_neg Hg] at y;exact y
theorem a0 (x y:V):mR [x,y] 0=some x:=rfl
theorem a1 (x y:V):mR [x,y] 1=some y:=rfl
theorem AG:yd wk wk (ak zD):=c9 (by decide +kernel)
variable {b:Int}
theorem qA {a:Int}(h:a≠0)(k:b≠0):a*b≠0:=Int.mul_ne_zero h k
theorem yo {fs:Addr}{WV:vH}(F:xR K "plus" "Field.plus" zD f fd)(c:oO K mg C)(FS:Ef P w K mg base (aO P w) 3 fs WV yJ (lV C))(bS:L2.az K WV yJ [])(mS:L2.Meth K C "settled" fs):
 Ef P w K mg base (aO P w) 4 f fd wk (zm C jg):=by
 refine F.okN AG (λvs H Q E h=>?_) (λFV A outer s H vs Q E hr h=>?_)
 ·obtain⟨s,dx,a1,a2,p,t1,b1,t2,b2,rfl,_⟩:=h;rfl
 ·obtain⟨s,dx,x1,x2,p,t1,b1,t2,b2,rfl,hs,hp,h1,h2,B1,B2,B3,B4,n1,n2,q⟩:=h;refine⟨_,au (ay (m6 (pv 0) c.cl mS FS hr bS .nil af (aj (aH cV (aH dh (bo bK (pv 1) ah (λ_ _=>rfl)) (bo bK (pv 2) ah (λ_ _=>rfl))) (aH dh (bo bK (pv 2) ah (λ_ _=>rfl)) (bo bK (pv 1) ah (λ_ _=>rfl)))) (aj (aH dh (bo bK (pv 1) ah (λ_ _=>rfl)) (bo bK (pv 2) ah (λ_ _=>rfl))) ag)))),?_⟩;refine⟨_,rfl,s,dx,_,rfl,hs,rfl,?_⟩;refine⟨_,rfl,x1,_,0,_,rfl,rfl,bx.of h1,a0 _ _,_,rfl,x2,_,1,_,rfl,rfl,bx.of h2,a1 _ _,_,_,rfl,rfl,⟨B1.mono (by decide),B4.mono (by decide)⟩,?_⟩;refine⟨_,rfl,x2,_,0,_,rfl,rfl,bx.of h2,a0 _ _,_,rfl,x1,_,1,_,rfl,rfl,bx.of h1,a1 _ _,_,_,rfl,rfl,⟨B3.mono (by decide),B2.mono (by decide)⟩,_,_,rfl,rfl,?_⟩;refine⟨_,rfl,x1,_,1,_,rfl,rfl,bx.of h1,a1 _ _,_,rfl,x2,_,1,_,rfl,rfl,bx.of h2,a1 _ _,_,_,rfl,rfl,⟨B2.mono (by decide),B4.mono (by decide)⟩,?_⟩;exact⟨s,dx,p,_,_,rfl,hs,hp,(B2.mul B4).mono (by decide),qA n1 n2,q⟩
noncomputable abbrev zt:Stmt:=(aJ 72)
noncomputable abbrev zw:Stmt:=(aJ 73)
noncomputable abbrev zA:Stmt:=(aJ 74)
noncomputable abbrev zq:Stmt:=(aJ 75)
noncomputable abbrev vz:Stmt:=(aJ 76)
theorem aq {a:Addr}{o:HO}(h:H a=none):ax H (upd H a o):=λb u e=>by rw[ai (ar e h)];exact e
noncomputable def vd (K:PySem.W.Frag):Sp:=λvs H Q _=>∃(a:Addr)(ns:List Int)(k:Int),vs=[.ref a,.int k]/\ba K H a (ns.map V.int)/\ns.length<=63/\0<=k/\k<=63 /\
 ∀(p:Addr)(l r:Int),H p=none->0<=r->r<2147483647->Q (.ref p) (upd H p (.lst [.int l,.int r]))
noncomputable def Eb:Sp:=λvs H Q _=>∃(p:Addr)(l r m:Int),vs=[.ref p,.int m]/\H p=some (.lst [.int l,.int r])/\0<=r/\r<2147483647/\0<m/\m<18446744073709551616 /\
 ∀(z l' r':Int),0<=z->z<m->0<=r'->r'<2147483647->Q (.int z) (upd H p (.lst [.int l',.int r']))
variable {Q:VK}
theorem iJ {k l c:Int}{x:Option V}(Ld:0<=k)(Ng:k<=63)(q:∀(p:Addr)(l r:Int),H p=none->0<=r->r<2147483647->Q (.ref p) (upd H p (.lst [.int l,.int r]))):
 pW (aQ (cC 3) (aQ (jB (rI (λ_ j=>0<j) λi j=>.int (i%j)) (jB (rI t9 λi j=>.int (i*j)) (jB (pD λi j=>.int (i+j)) (jB (pD λi j=>.int (i+j)) (jB (rI (λ_ j=>0<j) λi j=>.int (i%j)) (cC 2) (tC (.int 2147483629)))
  (jB (rI t9 λi j=>.int (i*j)) (jB (rI t9 λi j=>.int (i*j)) (tC (.int 104729)) (cC 1)) (cC 1))) (tC (.int 7))) (tC (.int 48271))) (tC (.int 2147483647))) tW)) [x,some (.int k),some (.int c),some (.int l)] H Q:=by
 have h1:(0:Int)<=104729*k:=by omega
 have h2:104729*k<=6597927:=by omega
 refine⟨_,rfl,_,rfl,_,_,rfl,rfl,(by show(0:Int)<2147483629;decide),_,rfl,_,_,rfl,rfl,.inl ⟨by decide,by decide⟩,_,rfl,_,_,rfl,rfl,.inl ⟨by omega,by omega⟩,_,_,rfl,rfl,_,_,rfl,rfl,_,_,rfl,rfl,.inr ⟨by decide,by decide⟩,_,_,rfl,rfl,(by show(0:Int)<2147483647;decide),ic,λp hp=>?_⟩;exact q p _ _ hp (Int.emod_nonneg _ (by decide)) (Int.emod_lt_of_pos _ (by decide))
theorem jZ:yd ["_law_script","_law_k","_law_cell","_law_left"] Dy (ak zt):=c9 (by decide +kernel)
theorem y6 (F:xR K "_law_room" "_law_room" zt f fd)(hlen:mg "len"=none):Ef P w K mg base (aO P w) 1 f fd Dy (vd K):=by
 refine F.okN jZ (λvs H Q E h=>?_) (λFV A outer s H vs Q E hr h=>?_)
 ·obtain⟨a,ns,k,rfl,_⟩:=h;rfl
 ·obtain⟨a,ns,k,rfl,hS,hn,Ld,Ng,q⟩:=h
  refine⟨_,ao (aM (i:=2) jZ.nd rfl (Or.inl rfl) ah)
   (ao (bc (aI jE (pv 1) (aB bJ (by rfl) hlen PySem.boot_len (aS (pv 0) ag)) (aK _))
    (au (aM (i:=2) jZ.nd rfl (Or.inl rfl) (bo bV (pv 0) (pv 1) (λ_ _=>rfl)))) aF)
   (ao (aM (i:=3) jZ.nd rfl (Or.inl rfl) ah)
   (ao (bc (aI zF (pv 2) (aH gQ ah ah) (aK _)) (au (aM (i:=3) jZ.nd rfl (Or.inl rfl) (pv 2))) aF)
   (au (ay (cy (aS (pv 3) (aS
    (aH dU (aH eI (aH cV (aH cV (aH dU (pv 2) ah) (aH eI (aH eI ah (pv 1)) (pv 1))) ah) ah) ah) ag)))))))),?_⟩
  refine⟨_,rfl,_,rfl,a,_,rfl,.inl hS,_,_,rfl,rfl,_,rfl,?_⟩;refine cp (λh=>?_) (λh=>?_)
  ·have FY:k.toNat<ns.length:=by
    have h1:=of_decide_eq_true h;rw[List.length_map] at h1;omega
   obtain⟨c,hc⟩:∃c,mR (ns.map V.int) k=some (V.int c):=by
    refine⟨ns[k.toNat],?_⟩
    have e:((k.toNat:Nat):Int)=k:=by omega
    have z:=se (xs:=ns.map V.int) (j:=k.toNat) (v:=V.int ns[k.toNat]) (by rw[List.getElem?_map];simp[FY]);rw[e] at z;exact z
   refine⟨_,rfl,_,rfl,a,_,k,_,rfl,rfl,hS,hc,?_⟩;refine⟨_,rfl,_,_,rfl,rfl,⟨by decide,by decide,by decide⟩,_,_,rfl,rfl,_,rfl,?_⟩;refine cp (λh2=>?_) (λh2=>?_)
   ·exact⟨_,rfl,iJ Ld Ng q⟩
   ·exact iJ Ld Ng q
  ·refine⟨_,rfl,_,_,rfl,rfl,⟨by decide,by decide,by decide⟩,_,_,rfl,rfl,_,rfl,?_⟩;refine cp (λh2=>?_) (λh2=>?_)
   ·exact⟨_,rfl,iJ Ld Ng q⟩
   ·exact iJ Ld Ng q
theorem mV:yd ["_law_room_here","_law_many","_law_found"] zT (ak zw):=c9 (by decide +kernel)
theorem yZ (F:xR K "_law_take" "_law_take" zw f fd):Ef P w K mg base (aO P w) 1 f fd zT Eb:=by
 refine F.okN mV (λvs H Q E h=>?_) (λFV A outer s H vs Q E hr h=>?_)
 ·obtain⟨p,l,r,m,rfl,_⟩:=h;rfl
 ·obtain⟨p,l,r,m,rfl,hp,Rv,Gb,Mv,hm1,q⟩:=h
  refine⟨_,ao (bc (aI sQ (bo bV (pv 0) ah (λ_ _=>rfl)) ah (aK _))
   (ao (aM (i:=2) mV.nd rfl (Or.inl rfl) (aH dU (bo bV (pv 0) ah (λ_ _=>rfl)) (pv 1)))
   (ao (i8 (aH eV (bo bV (pv 0) ah (λ_ _=>rfl)) (pv 1)) (qj (pv 0) ah jI))
   (au (ay (pv 2))))) aF)
   (ao (i8 (aH dU (aH cV (aH eI (bo bV (pv 0) ah (λ_ _=>rfl)) ah) ah) ah) (qj (pv 0) ah jI))
   (ao (aM (i:=2) mV.nd rfl (Or.inl rfl) (aH abU (aH dU (aH eI (bo bV (pv 0) ah (λ_ _=>rfl)) (bo bV (pv 0) ah (λ_ _=>rfl))) ah) ah))
   (ao (bc (aI sQ (pv 1) (aH gQ ah ah) (aK _))
    (ao (i8 (aH dU (aH cV (aH eI (bo bV (pv 0) ah (λ_ _=>rfl)) ah) ah) ah) (qj (pv 0) ah jI))
    (au (aM (i:=2) mV.nd rfl (Or.inl rfl) (aH cV (aH eI (pv 2) ah) (aH dU (aH eI (bo bV (pv 0) ah (λ_ _=>rfl)) (bo bV (pv 0) ah (λ_ _=>rfl))) ah))))) aF)
   (au (ay (aH dU (pv 2) (pv 1))))))),?_⟩
  have i0:∀x y:V,mR [x,y] 0=some x:=λ_ _=>rfl;have i1:∀x y:V,mR [x,y] 1=some y:=λ_ _=>rfl;have n0:xy [V.int l,V.int r].length 0=some 0:=rfl;have n1:∀x y:V,xy [x,y].length 1=some 1:=λ_ _=>rfl;refine⟨_,rfl,p,_,0,_,rfl,rfl,ba.of hp,i0 _ _,_,_,rfl,rfl,_,rfl,?_⟩;refine cp (λh=>?_) (λh=>?_)
  ·refine⟨_,rfl,p,_,0,_,rfl,rfl,ba.of hp,i0 _ _,_,rfl,_,_,rfl,rfl,Mv,?_⟩;refine⟨_,rfl,p,_,0,_,rfl,rfl,ba.of hp,i0 _ _,_,rfl,_,_,rfl,rfl,⟨by omega,(show B 64 m from(by show m.natAbs<2^64;omega)).mono (by decide)⟩,_,rfl,p,_,0,0,rfl,rfl,hp,n0,?_⟩;exact⟨_,rfl,q _ _ _ (Int.emod_nonneg _ (by omega)) (Int.emod_lt_of_pos _ Mv) Rv Gb⟩
  ·have e1:∀t:Int,0<=t%2147483647/\t%2147483647<2147483647:=λt=>⟨Int.emod_nonneg _ (by decide),Int.emod_lt_of_pos _ (by decide)⟩;refine⟨_,rfl,p,_,1,_,rfl,rfl,ba.of hp,i1 _ _,_,_,rfl,rfl,.inl ⟨by omega,by omega⟩,_,_,rfl,rfl,_,_,rfl,rfl,(by show(0:Int)<2147483647;decide),_,rfl,p,_,1,1,rfl,rfl,hp,n1 _ _,?_⟩;refine⟨_,rfl,p,_,1,_,rfl,rfl,ba.of ae,i1 _ _,_,rfl,p,_,1,_,rfl,rfl,ba.of ae,i1 _ _,_,_,rfl,rfl,.inl ⟨by omega,by omega⟩,_,_,rfl,rfl,(by show(0:Int)<2147483629;decide),_,_,rfl,rfl,⟨by decide,by decide⟩,?_⟩;refine⟨_,rfl,_,_,rfl,rfl,⟨by decide,by decide,by decide⟩,_,_,rfl,rfl,_,rfl,?_⟩;refine cp (λh2=>?_) (λh2=>?_)
   ·refine⟨_,rfl,p,_,1,_,rfl,rfl,ba.of ae,i1 _ _,_,_,rfl,rfl,.inl ⟨by omega,by omega⟩,_,_,rfl,rfl,_,_,rfl,rfl,(by show(0:Int)<2147483647;decide),_,rfl,p,_,1,1,rfl,rfl,ae,n1 _ _,?_⟩;rw[rJ];refine⟨_,rfl,_,_,rfl,rfl,.inr ⟨by decide,by decide⟩,_,rfl,p,_,1,_,rfl,rfl,ba.of ae,i1 _ _,_,rfl,p,_,1,_,rfl,rfl,ba.of ae,i1 _ _,_,_,rfl,rfl,.inl ⟨by omega,by omega⟩,_,_,rfl,rfl,(by show(0:Int)<2147483587;decide),_,_,rfl,rfl,?_⟩;exact⟨_,rfl,_,rfl,_,_,rfl,rfl,Mv,q _ _ _ (Int.emod_nonneg _ (by omega)) (Int.emod_lt_of_pos _ Mv) (e1 _).1 (e1 _).2⟩
   ·exact⟨_,rfl,_,rfl,_,_,rfl,rfl,Mv,q _ _ _ (Int.emod_nonneg _ (by omega)) (Int.emod_lt_of_pos _ Mv) (e1 _).1 (e1 _).2⟩
noncomputable def B8 (H:Hp)(Q:VK)(t b:Int):Prop:=∀(H':Hp)(a:Addr),ax H H'->H' a=some (cA t b)->Q (.ref a) H'
theorem B8.of {H':Hp}{t:Int}(q:B8 H Q t b)(S:ax H H'):∀a,H' a=none->Q (.ref a) (upd H' a (cA t b)):=λa ha=>q _ a (S.trans (aq ha)) ae
noncomputable def C1:Sp:=λvs H Q _=>∃t b:Int,vs=[.int t,.int b]/\b≠0/\B 9000 b/\B 9000 t/\B8 H Q (dZ t b) (cR t b)
noncomputable def vV:Sp:=λvs H Q _=>∃p t b:Int,vs=[.int p,.int t,.int b]/\FP p/\b≠0/\B 9000 b/\B 9000 t/\(p≠0->b=1)/\B8 H Q (fQ p t b) (fO p t b)
noncomputable def ko (g:Int->Int->Int->Int->Int):Sp:=λvs H Q _=>∃(p t1 b1 t2 b2:Int)(a1 a2:Addr),vs=[.int p,.ref a1,.ref a2]/\FP p/\H a1=some (cA t1 b1)/\H a2=some (cA t2 b2)/\B 4000 t1/\B 4000 b1/\B 4000 t2/\B 4000 b2/\b1≠0/\b2≠0/\(p≠0->b1*b2=1) /\
 B8 H Q (fQ p (g t1 b1 t2 b2) (b1*b2)) (fO p (g t1 b1 t2 b2) (b1*b2))
noncomputable abbrev DN:List Str:=["_law_top","_law_base","_law_one","_law_other","_law_sign"]
theorem kO:yd DN yj (ak zA):=c9 (by decide +kernel)
theorem zz (c:Int):(if c<0 then -c else c)=ab c:=rfl
theorem yY (F:xR K "_law_lowest" "_law_lowest" zA f fd)(mA:mg "abs"=none)(mI:mg "int"=none):Ef P w K mg base (aO P w) 1 f fd yj C1:=by
 refine F.okN kO (λvs H Q E h=>?_) (λFV A outer s H vs Q E hr h=>?_)
 ·obtain⟨a,b,rfl,_⟩:=h;rfl
 ·obtain⟨t,b,rfl,hb,hB,hT,q⟩:=h
  refine⟨_,ao (aM (i:=2) kO.nd rfl (Or.inl rfl) (aB ie (by rfl) mA (by rfl) (aj (pv 0) ag)))
   (ao (aM (i:=3) kO.nd rfl (Or.inl rfl) (aB ie (by rfl) mA (by rfl) (aj (pv 1) ag)))
   (ao (nW PassesOwn.never (aI gI (pv 3) ah (aK _)) (au (vk (i:=2) (j:=3) rfl kO.nd rfl rfl (by decide) rfl rfl (aj (pv 3) (aj (aH rL (pv 2) (pv 3)) ag)) rfl)))
   (ao (aM (i:=4) kO.nd rfl (Or.inl rfl) (bo bV (cy (aj ah (aj (vT pZ ah) ag))) (eW acC (by rfl) mI (by rfl) (aj (dC jE (pv 1) ah (aK _)) ag)) (λ_ _=>rfl)))
   (au (ay (bO (aj (aH eV (aH eI (pv 4) (pv 0)) (pv 2)) (aj (aH eV (aB ie (by rfl) mA (by rfl) (aj (pv 1) ag)) (pv 2)) ag)))))))),?_⟩
  refine⟨_,rfl,t,rfl,_,rfl,b,rfl,?_⟩;rw[zz,zz];refine⟨λm σ H'=>∃c d:Int,σ=[some (.int t),some (.int b),some (.int c),some (.int d),none]/\H'=H/\m=d.natAbs/\Int.gcd c d=Int.gcd t b/\0<=c/\0<=d,⟨_,ab t,ab b,rfl,rfl,rfl,zM t b,by rw[lj];omega,by rw[lj];omega⟩,?_⟩;rintro m σ H' ⟨c,d,rfl,rfl,rfl,hg,hc0,Ru⟩;refine⟨_,rfl,rfl,_,rfl,?_⟩;refine cp (λh=>?_) (λh=>?_)
  ·have hd:d≠0:=by simpa using h
   refine⟨λσ' Iw=>∃c' d':Int,σ'=[some (.int t),some (.int b),some (.int c'),some (.int d'),none]/\Iw=H'/\d'.natAbs<d.natAbs/\Int.gcd c' d'=Int.gcd t b/\0<=c'/\0<=d',λσ' Iw ⟨c',d',e1,e2,e3,e4,e5,e6⟩=>⟨_,e3,c',d',e1,e2,rfl,e4,e5,e6⟩,?_⟩;refine⟨_,rfl,_,rfl,_,rfl,_,_,rfl,rfl,hd,_,_,rfl,d,c.fmod d,rfl,rfl,rS c d hd,by rw[om,hg],Ru,Int.fmod_nonneg_of_pos c (by omega)⟩
  ·have hd:d=0:=by simpa using h
   subst hd
   have eg:c=df t b:=by
    unfold df;rw[<-hg];simp;omega
   have gp:=eY (t:=t) hb;have WW:B 9000 (df t b):=hB.le (Ao hb);subst eg;refine⟨_,rfl,ic,λz hz=>?_⟩;have S:=aq (o:=.lst [V.int 1,V.int (-1)]) hz;refine⟨_,rfl,_,_,rfl,rfl,.inr ⟨_,rfl,?_⟩⟩
   have JH:mR [V.int 1,V.int (-1)] (if decide (b<0)=true then 1 else 0)=some (.int (sg b)):=by
    unfold sg
    by_cases Ll:b<0
    ·simp[Ll];rfl
    ·simp[Ll];rfl
   refine⟨z,_,_,_,rfl,rfl,ba.of ae,JH,?_⟩
   have sg1:-1<=sg b/\sg b<=1:=by unfold sg;split <;> decide
   refine⟨_,rfl,_,rfl,_,_,rfl,rfl,.inl ⟨by omega,by omega⟩,_,rfl,_,_,rfl,rfl,⟨by omega,WW⟩,_,rfl,b,rfl,_,rfl,_,_,rfl,rfl,⟨by omega,WW⟩,ic,λa ha=>?_⟩;have y:=q.of S a ha;rw[<-Cp (t:=t) hb,<-B7 (t:=t) hb] at y;exact y
theorem Ah:yd vY vY (ak zq):=c9 (by decide +kernel)
theorem yk (F:xR K "_law_make" "_law_make" zq f fd)(FL:Ef P w K mg base (aO P w) 1 fl Hn yj C1)(bL:L2.az K Hn yj [])(mL:mg "_law_lowest"=some (.ref fl))(kL:keepIn K (.ref fl)=true):
 Ef P w K mg base (aO P w) 2 f fd vY vV:=by
 refine F.okN Ah (λvs H Q E h=>?_) (λFV A outer s H vs Q E hr h=>?_)
 ·obtain⟨p,t,b,rfl,_⟩:=h;rfl
 ·obtain⟨p,t,b,rfl,hp,hb,hB,hT,h1,q⟩:=h
  refine⟨_,ao (bc (aI du (pv 0) ah (aK _)) (au (ay (av FL hr (by rfl) mL kL bL .nil af (aj (pv 1) (aj (pv 2) ag))))) aF)
   (ao (bc (aI gI (aH dU (pv 2) (pv 0)) ah (aK _)) abf aF)
   (au (ay (bO (aj (aH dU (pv 1) (pv 0)) (aj ah ag)))))),?_⟩
  refine⟨_,rfl,rfl,_,rfl,?_⟩;refine cp (λh=>?_) (λh=>?_)
  ·have Hg:p=0:=by simpa using h
   unfold fQ fO at q;rw[if_pos Hg,if_pos Hg] at q;exact⟨_,rfl,_,rfl,t,b,rfl,hb,hB,hT,q⟩
  ·have Hg:p≠0:=by simpa using h
   obtain⟨Nf,p2,SA⟩:=hp.two Hg;have Ze:=h1 Hg;subst Ze;refine⟨_,rfl,_,rfl,_,_,rfl,rfl,(by show(0:Int)<p;omega),rfl,_,rfl,?_⟩;have e1:(1:Int)%p=1:=Int.emod_eq_of_lt (by decide) (by omega);refine cp (λh=>absurd h (by simp[e1])) (λ_=>?_);unfold fQ fO at q;rw[if_neg Hg,if_neg Hg] at q;exact⟨_,rfl,_,rfl,_,_,rfl,rfl,(by show(0:Int)<p;omega),ic,q.of (ax.refl _)⟩
theorem xN:yd D1 D1 (ak vz):=c9 (by decide +kernel)
theorem vP (F:xR K "_law_plus" "_law_plus" vz f fd)(FL:Ef P w K mg base (aO P w) 2 fl Hn vY vV)(bL:L2.az K Hn vY [])(mL:mg "_law_make"=some (.ref fl))(kL:keepIn K (.ref fl)=true):
 Ef P w K mg base (aO P w) 3 f fd D1 (ko jg):=by
 refine F.okN xN (λvs H Q E h=>?_) (λFV A outer s H vs Q E hr h=>?_)
 ·obtain⟨p,t1,b1,t2,b2,x1,x2,rfl,_⟩:=h;rfl
 ·obtain⟨p,t1,b1,t2,b2,x1,x2,rfl,hp,h1,h2,B1,B2,B3,B4,n1,n2,hb,q⟩:=h;refine⟨_,au (ay (av FL hr (by rfl) mL kL bL .nil af (aj (pv 0) (aj (aH cV (aH dh (bo bK (pv 1) ah (λ_ _=>rfl)) (bo bK (pv 2) ah (λ_ _=>rfl))) (aH dh (bo bK (pv 2) ah (λ_ _=>rfl)) (bo bK (pv 1) ah (λ_ _=>rfl)))) (aj (aH dh (bo bK (pv 1) ah (λ_ _=>rfl)) (bo bK (pv 2) ah (λ_ _=>rfl))) ag))))),?_⟩;refine⟨_,rfl,?_⟩;refine⟨_,rfl,x1,_,0,_,rfl,rfl,bx.of h1,a0 _ _,_,rfl,x2,_,1,_,rfl,rfl,bx.of h2,a1 _ _,_,_,rfl,rfl,⟨B1.mono (by decide),B4.mono (by decide)⟩,?_⟩;refine⟨_,rfl,x2,_,0,_,rfl,rfl,bx.of h2,a0 _ _,_,rfl,x1,_,1,_,rfl,rfl,bx.of h1,a1 _ _,_,_,rfl,rfl,⟨B3.mono (by decide),B2.mono (by decide)⟩,_,_,rfl,rfl,?_⟩;refine⟨_,rfl,x1,_,1,_,rfl,rfl,bx.of h1,a1 _ _,_,rfl,x2,_,1,_,rfl,rfl,bx.of h2,a1 _ _,_,_,rfl,rfl,⟨B2.mono (by decide),B4.mono (by decide)⟩,?_⟩;exact⟨p,_,_,rfl,hp,qA n1 n2,(B2.mul B4).mono (by decide),((B1.mul B4).add (B3.mul B2)).mono (by decide),hb,q⟩
noncomputable abbrev wD:Stmt:=(aJ 78)
noncomputable abbrev sM:Stmt:=(aJ 79)
noncomputable def aE (H:Hp)(r:Addr):Prop:=∃l x:Int,H r=some (.lst [.int l,.int x])/\0<=x/\x<2147483647
noncomputable def SameBut (r:Addr)(H H':Hp):Prop:=∀b o,H b=some o->b≠r->H' b=some o
variable {r:Addr}
theorem SameBut.trans {H1 H2:Hp}(a:SameBut r H H1)(b:SameBut r H1 H2):SameBut r H H2:=λc o e n=>b c o (a c o e n) n
theorem SameBut.of {H1:Hp}(a:ax H H1):SameBut r H H1:=λc o e _=>a c o e
theorem SameBut.upd {o:HO}:SameBut r H (upd H r o):=λb u e n=>by rw[ai n];exact e
noncomputable def CH:Sp:=λvs H Q _=>∃r:Addr,vs=[.ref r]/\aE H r/\∀(p:Int)(H':Hp),FP p->aE H' r->SameBut r H H'->Q (.int p) H'
noncomputable def yW:Sp:=λvs H Q _=>∃(r:Addr)(p:Int),vs=[.ref r,.int p]/\FP p/\aE H r/\∀(a:Addr)(t b:Int)(H':Hp),Num p t b->B 45 t->B 45 b->H' a=some (cA t b)->aE H' r->SameBut r H H'->Q (.ref a) H'
theorem BP {a:Addr}{t:Int}(h:H a=some (cA t b)):aX K H (.tup [.int t,.int b]) (.ref a):=by
 unfold aX;refine⟨a,_,rfl,bx.of h,?_⟩;unfold cj;refine⟨_,_,rfl,by unfold aX;rfl,?_⟩;unfold cj;refine⟨_,_,rfl,by unfold aX;rfl,?_⟩;unfold cj;rfl
theorem D7 (t b:Int):pC (.tup [.int t,.int b])=1:=by simp[pC,lE]
theorem Er (t b u d:Int):iM (.tup [.int t,.int b]) (.tup [.int u,.int d])=(t==u&&b==d):=by simp[iM,eE]
theorem jA {xs:List Int}{w:Int}(h0:0<=w)(h1:w<xs.length):∃x∈xs,mR (xs.map V.int) w=some (.int x):=by
 have hl:w.toNat<xs.length:=by omega
 refine⟨xs[w.toNat],List.getElem_mem hl,?_⟩;have z:=se (xs:=xs.map V.int) (j:=w.toNat) (v:=V.int xs[w.toNat]) (by rw[List.getElem?_map];simp[hl])
 have e:((w.toNat:Nat):Int)=w:=by omega
 rw[e] at z;exact z
theorem jP:yd ["_law_room_here","_law_at","_law_some"] ui (ak wD):=c9 (by decide +kernel)
set_option maxHeartbeats 1000000 in
theorem tJ {ft:Addr}{Ho:vH}(F:xR K "_law_prime" "_law_prime" wD f fd)(FT:Ef P w K mg base (aO P w) 1 ft Ho zT Eb)(bT:L2.az K Ho zT [])(mT:mg "_law_take"=some (.ref ft))(kT:keepIn K (.ref ft)=true):
 Ef P w K mg base (aO P w) 2 f fd ui CH:=by
 refine F.okN jP (λvs H Q E h=>?_) (λFV A outer s H vs Q E hr h=>?_)
 ·obtain⟨r,rfl,_⟩:=h;rfl
 ·obtain⟨r,rfl,⟨l,x,hR,x0,x1⟩,q⟩:=h
  refine⟨_,ao (aM (i:=1) jP.nd rfl (Or.inl rfl) (av FT hr (by rfl) mT kT bT .nil af (aj (pv 0) (aj ah ag))))
   (ao (bc (aI du (pv 1) ah (aK _))
    (@ao _ _ _ _ _ (@aM _ _ 2 _ _ _ _ jP.nd rfl (Or.inl rfl) (@m9 _ _ _ [11,13,17,19,23,29,31,37,41,43,47,53,59,61,67,71,73,79,83,89] rfl (by decide)) rfl (Or.inl rfl))
    (au (ay (bo bV (pv 2) (av FT hr (by rfl) mT kT bT .nil af (aj (pv 0) (aj ah ag))) (λ_ _=>rfl))))) aF)
   (@au _ _ _ (@ay _ _ _ _ (@bo _ _ _ _ _ _ _ bV (@m9 _ _ _ [0,0,2,3,5,7,97,0] rfl (by decide)) (pv 1) (λ_ _=>rfl))))),?_⟩
  refine⟨_,rfl,r,l,x,9,rfl,hR,x0,x1,by decide,by decide,λz l2 r2 z0 z1 g0 g1=>?_⟩;refine⟨_,rfl,rfl,_,rfl,?_⟩;have Lm:(upd H r (.lst [.int l2,.int r2])) r=some (.lst [.int l2,.int r2]):=ae;have S2:SameBut r H (upd H r (.lst [.int l2,.int r2])):=SameBut.upd;generalize (upd H r (.lst [.int l2,.int r2]))=H2 at Lm S2 |-;refine cp (λh=>?_) (λh=>?_)
  ·refine λm hm=>?_;have S3:=aq (o:=.lst ([11,13,17,19,23,29,31,37,41,43,47,53,59,61,67,71,73,79,83,89].map V.int)) hm;have em:(upd H2 m (.lst ([11,13,17,19,23,29,31,37,41,43,47,53,59,61,67,71,73,79,83,89].map V.int))) m=some (.lst ([11,13,17,19,23,29,31,37,41,43,47,53,59,61,67,71,73,79,83,89].map V.int)):=ae;have Kk:=S3 _ _ Lm;refine⟨_,rfl,_,rfl,r,l2,r2,20,rfl,Kk,g0,g1,by decide,by decide,λz' l3 r3 Zf Zg Zh Nh=>?_⟩;obtain⟨y,hy,JH⟩:=jA (xs:=[11,13,17,19,23,29,31,37,41,43,47,53,59,61,67,71,73,79,83,89]) Zf Zg;have nm:m≠r:=kQ em Kk (by intro z;cases z);refine⟨m,_,z',_,rfl,rfl,ba.of (by rw[ai nm];exact em),JH,?_⟩
   have all:∀y∈([11,13,17,19,23,29,31,37,41,43,47,53,59,61,67,71,73,79,83,89]:List Int),y∈Br:=by decide
   exact q y _ (.inr (all y hy)) ⟨l3,r3,ae,Zh,Nh⟩ ((S2.trans (SameBut.of S3)).trans SameBut.upd)
  ·have hz:z<8:=by
    have:z≠8:=by simpa using h
    omega
   refine λm hm=>?_;have S3:=aq (o:=.lst ([0,0,2,3,5,7,97,0].map V.int)) hm;have em:(upd H2 m (.lst ([0,0,2,3,5,7,97,0].map V.int))) m=some (.lst ([0,0,2,3,5,7,97,0].map V.int)):=ae;obtain⟨y,hy,JH⟩:=jA (xs:=[0,0,2,3,5,7,97,0]) z0 hz;refine⟨_,rfl,m,_,z,_,rfl,rfl,ba.of em,JH,?_⟩
   have all:∀y∈([0,0,2,3,5,7,97,0]:List Int),y=0\/y∈Br:=by decide
   exact q y _ (all y hy) ⟨l2,r2,S3 _ _ Lm,g0,g1⟩ (S2.trans (SameBut.of S3))
theorem vh:yd ub ub (ak sM):=c9 (by decide +kernel)
theorem sO {H H2:Hp}{t:Int}(q:∀(a:Addr)(t b:Int)(H':Hp),Num 0 t b->B 45 t->B 45 b->H' a=some (cA t b)->aE H' r->SameBut r H H'->Q (.ref a) H')(hb:0<b)(hB:B 45 b)(hT:B 45 t)(hR:aE H2 r)(S:SameBut r H H2):C1 [.int t,.int b] H2 Q λ_ _ _=>False:=by
 have Ll:b≠0:=by omega
 refine⟨t,b,rfl,Ll,hB.mono (by decide),hT.mono (by decide),λH' a S' e=>?_⟩;refine q a _ _ H' (Num.low Ll) (hT.le (rK Ll)) (hB.le (sJ Ll)) e ?_ (S.trans (SameBut.of S'));obtain⟨l,x,h,z⟩:=hR;exact⟨l,x,S' _ _ h,z⟩
set_option maxHeartbeats 1000000 in
theorem tN {ft:Addr}{Ho:vH}(F:xR K "_law_number" "_law_number" sM f fd)(FT:Ef P w K mg base (aO P w) 1 ft Ho zT Eb)(bT:L2.az K Ho zT [])(mT:mg "_law_take"=some (.ref ft))(kT:keepIn K (.ref ft)=true)
 (FL:Ef P w K mg base (aO P w) 1 fl Hn yj C1)(bL:L2.az K Hn yj [])(mL:mg "_law_lowest"=some (.ref fl))(kL:keepIn K (.ref fl)=true):
 Ef P w K mg base (aO P w) 2 f fd ub yW:=by
 refine F.okN vh (λvs H Q E h=>?_) (λFV A outer s H vs Q E hr h=>?_)
 ·obtain⟨r,p,rfl,_⟩:=h;rfl
 ·obtain⟨r,p,rfl,hp,⟨l,x,hR,x0,x1⟩,q⟩:=h
  refine⟨_,ao (bc (aI sQ (pv 1) ah (aK _)) (au (ay (bO (aj (av FT hr (by rfl) mT kT bT .nil af (aj (pv 0) (aj (pv 1) ag))) (aj ah ag))))) aF)
   (ao (bc (aI du (av FT hr (by rfl) mT kT bT .nil af (aj (pv 0) (aj ah ag))) ah (aK _))
    (au (ay (av FL hr (by rfl) mL kL bL .nil af
     (aj (aH gU (av FT hr (by rfl) mT kT bT .nil af (aj (pv 0) (@aj _ _ _ _ _ (@aH _ _ _ _ _ _ _ _ eI ah (@aH _ _ _ _ _ _ _ _ gQ ah ah)) ag rfl))) (@aH _ _ _ _ _ _ _ _ gQ ah ah))
     (@aj _ _ _ _ _ (@bo _ _ _ _ _ _ _ bV (@cy _ _ _ _ (@aj _ _ _ _ _ ah (@aj _ _ _ _ _ ah (@aj _ _ _ _ _ (@aH _ _ _ _ _ _ _ _ gQ ah ah) (@aj _ _ _ _ _ (@aH _ _ _ _ _ _ _ _ cV (@aH _ _ _ _ _ _ _ _ gQ ah ah) ah) ag rfl) rfl) rfl) rfl))
       (av FT hr (by rfl) mT kT bT .nil af (aj (pv 0) (aj ah ag))) (λ_ _=>rfl)) ag rfl))))) aF)
   (au (ay (av FL hr (by rfl) mL kL bL .nil af
    (aj (aH gU (av FT hr (by rfl) mT kT bT .nil af (aj (pv 0) (aj ah ag))) ah)
    (@aj _ _ _ _ _ (@bo _ _ _ _ _ _ _ bV (@m9 _ _ _ [1,1,2,3] rfl (by decide)) (av FT hr (by rfl) mT kT bT .nil af (aj (pv 0) (aj ah ag))) (λ_ _=>rfl)) ag rfl)))))),?_⟩
  refine⟨_,rfl,_,_,rfl,rfl,_,rfl,?_⟩;refine cp (λh=>?_) (λh=>?_)
  ·have Hg:0<p:=by simpa using h
   obtain⟨_,p2,SA⟩:=hp.two (by omega);refine⟨_,rfl,_,rfl,r,l,x,p,rfl,hR,x0,x1,Hg,by omega,λz l2 r2 z0 z1 g0 g1=>?_⟩;refine⟨ic,λa ha=>?_⟩;have S:=aq (o:=cA z 1) ha;refine q a z 1 _ (Num.ofP z0 z1) ?_ (by show(1:Int).natAbs<2^45;decide) ae ⟨l2,r2,S _ _ ae,g0,g1⟩ (SameBut.upd.trans (SameBut.of S));show z.natAbs<2^45;omega
  ·have Hg:p=0:=by
    have:=hp.nn
    have h':¬0<p:=by simpa using h
    omega
   subst Hg;refine⟨_,rfl,r,l,x,8,rfl,hR,x0,x1,by decide,by decide,λz l2 r2 z0 z1 g0 g1=>⟨rfl,_,rfl,?_⟩⟩;have Lm:(upd H r (.lst [.int l2,.int r2])) r=some (.lst [.int l2,.int r2]):=ae;have S2:SameBut r H (upd H r (.lst [.int l2,.int r2])):=SameBut.upd;generalize (upd H r (.lst [.int l2,.int r2]))=H2 at Lm S2 |-;refine cp (λh=>?_) (λh=>?_)
   ·refine⟨_,rfl,_,_,rfl,rfl,⟨by decide,by decide,by decide⟩,_,_,rfl,rfl,.inl ⟨by decide,by decide⟩,r,l2,r2,_,rfl,Lm,g0,g1,by decide,by decide,λy l3 r3 y0 y1 k0 k1=>?_⟩;refine⟨_,_,rfl,rfl,⟨by decide,by decide,by decide⟩,_,_,rfl,rfl,?_⟩;refine⟨_,_,rfl,rfl,⟨by decide,by decide,by decide⟩,_,_,rfl,rfl,⟨by decide,by decide,by decide⟩,_,_,rfl,rfl,EO,λm hm=>?_⟩;have S3:SameBut r H2 (upd H2 r (.lst [.int l3,.int r3])):=SameBut.upd;have Kk:(upd H2 r (.lst [.int l3,.int r3])) r=some (.lst [.int l3,.int r3]):=ae;generalize (upd H2 r (.lst [.int l3,.int r3]))=H3 at hm S3 Kk |-;have S4:=aq (o:=.lst ([1,7,10^(6:Int).toNat,10^(12:Int).toNat+39].map V.int)) hm;have em:(upd H3 m (.lst ([1,7,10^(6:Int).toNat,10^(12:Int).toNat+39].map V.int))) m=some (.lst ([1,7,10^(6:Int).toNat,10^(12:Int).toNat+39].map V.int)):=ae;have Ni:=S4 _ _ Kk;refine⟨_,rfl,r,l3,r3,4,rfl,Ni,k0,k1,by decide,by decide,λv l4 r4 v0 v1 j0 j1=>?_⟩;have nm:m≠r:=kQ em Ni (by intro z;cases z);obtain⟨b,hb,JH⟩:=jA (xs:=[1,7,10^(6:Int).toNat,10^(12:Int).toNat+39]) v0 v1;refine⟨m,_,v,_,rfl,rfl,ba.of (by rw[ai nm];exact em),JH,?_⟩
    have bb:∀b∈([1,7,10^(6:Int).toNat,10^(12:Int).toNat+39]:List Int),0<b/\b.natAbs<2^45:=by decide
    obtain⟨b0,bB⟩:=bb b hb;refine sO (H:=H) q b0 bB ?_ ⟨l4,r4,ae,j0,j1⟩ (((S2.trans S3).trans (SameBut.of S4)).trans SameBut.upd)
    have e1:(2:Int)*10^(12:Int).toNat=2000000000000:=by decide
    have e2:(10:Int)^(12:Int).toNat=1000000000000:=by decide
    rw[e1] at y1;show(y-10^(12:Int).toNat).natAbs<2^45;rw[e2];omega
   ·refine⟨_,rfl,r,l2,r2,19,rfl,Lm,g0,g1,by decide,by decide,λy l3 r3 y0 y1 k0 k1=>?_⟩;refine⟨_,_,rfl,rfl,λm hm=>?_⟩;have S3:SameBut r H2 (upd H2 r (.lst [.int l3,.int r3])):=SameBut.upd;have Kk:(upd H2 r (.lst [.int l3,.int r3])) r=some (.lst [.int l3,.int r3]):=ae;generalize (upd H2 r (.lst [.int l3,.int r3]))=H3 at hm S3 Kk |-;have S4:=aq (o:=.lst ([1,1,2,3].map V.int)) hm;have em:(upd H3 m (.lst ([1,1,2,3].map V.int))) m=some (.lst ([1,1,2,3].map V.int)):=ae;have Ni:=S4 _ _ Kk;refine⟨_,rfl,r,l3,r3,4,rfl,Ni,k0,k1,by decide,by decide,λv l4 r4 v0 v1 j0 j1=>?_⟩;have nm:m≠r:=kQ em Ni (by intro z;cases z);obtain⟨b,hb,JH⟩:=jA (xs:=[1,1,2,3]) v0 v1;refine⟨m,_,v,_,rfl,rfl,ba.of (by rw[ai nm];exact em),JH,?_⟩
    have bb:∀b∈([1,1,2,3]:List Int),0<b/\b.natAbs<2^45:=by decide
    obtain⟨b0,bB⟩:=bb b hb;refine sO (H:=H) q b0 bB ?_ ⟨l4,r4,ae,j0,j1⟩ (((S2.trans S3).trans (SameBut.of S4)).trans SameBut.upd);show(y-9).natAbs<2^45;omega
end K26
namespace L2
open PySem PySem.Spec PyProof.Rows PySem.W
section
variable {X:Cx}{CX:Et}{k:Nat}{f:Addr}{fd:vH}{ps:nO}{sp:Sp}{x:Str}{p pos:Pos}{e:Expr}{es:wW}{t:TA}{js:List Nat}{ys:nO}
noncomputable def qw (v:V)(o:Obj):Prop:=∃u,aD v u/\o.data=.cell (some u)
noncomputable def wY (cs:List Addr)(js:List Nat)(sp:Sp)(t:TA):TE:=λσ H Q=>t σ H λvs H1=>∃ws:List V,js.map (λj=>σ[j]?)=ws.map (λw=>some (some w)) /\
 ∀os:List Obj,Paired qw ws os->(∀c∈cs,H1 c=none)->sp vs (dD (cs.zip os) H1) (λr H'=>fH (cs.zip os) H'/\Q r (eZ (cs.zip os) H')) λ_ _ _=>False
theorem lZ {pins:List (Addr×Obj)}{σ:St}{H:Hp}{s:Fp}(I:Inv X pins σ H s):∀(ys:nO)(js:List Nat)(ws:List V),js.map (λj=>X.N[j]?)=ys.map some->js.map (λj=>σ[j]?)=ws.map (λw=>some (some w)) →
 (∀y∈ys,X.env.kindOf y=some .cell)->(∀y∈ys,X.fn y=true)->∃os:List Obj,Paired qw ws os/\∀q∈(ys.map (eB X)).zip os,H q.1=none/\s.heap.get? q.1=some q.2/\q.1∉dz X.stack/\X.s₀.heap.objs.size<=q.1
 |[],js,ws,h1,h2,_,_=>by
  cases js with
  |cons j js=>simp at h1
  |nil =>
   cases ws with
   |cons w ws=>simp at h2
   |nil=>exact⟨[],.nil,λq hq=>by simp at hq⟩
 |y::ys,js,ws,h1,h2,hc,hf=>by
  cases js with
  |nil=>simp at h1
  |cons j js =>
   cases ws with
   |nil=>simp at h2
   |cons w ws =>
    rw[List.map_cons,List.map_cons] at h1 h2;have hy:=(List.cons.inj h1).1;have ev:=(List.cons.inj h2).1;obtain⟨os,r,g⟩:=lZ I ys js ws (List.cons.inj h1).2 (List.cons.inj h2).2 (λz hz=>hc z (List.mem_cons_of_mem _ hz)) λz hz=>hf z (List.mem_cons_of_mem _ hz);have WY:=hc y List.mem_cons_self;obtain⟨m,hn,hl⟩:=I.loc;obtain⟨u,rv,l⟩:=hl j y w hy ev (.inr (.inl WY))
    rcases l with⟨k1,_⟩|⟨_,c,ec,o,ho,hd⟩
    ·rw[WY] at k1;cases k1
    ·have Mw:eB X y=c:=by unfold eB;rw[ec];rfl
     have fc:H c=none:=I.aag y c ec;have cab:=I.ok.cab y c (hf y List.mem_cons_self) ec;refine⟨o::os,.cons ⟨u,rv,hd⟩ r,λq hq=>?_⟩;rw[List.map_cons,List.zip_cons_cons] at hq
     rcases List.mem_cons.mp hq with rfl|hq
     ·refine⟨by rw[Mw];exact fc,by rw[Mw];exact ho,?_,by rw[Mw];exact cab⟩;show eB X y∉dz X.stack;rw[Mw];intro Gs
      rcases List.mem_cons.mp (I.aao _ Gs) with z|z
      ·exact I.cne y _ ec z
      ·obtain⟨_,o2,e2,_⟩:=I.ok.aat.mem z;exact absurd (Nat.lt_of_lt_of_le (Heap.lt_size e2) cab) (Nat.lt_irrefl _)
     ·exact g q hq
theorem dQ {cs:List (Addr×Obj)}{a:Addr}{v:Obj}(h:cs.lookup a=some v):(a,v)∈cs:=by
 induction cs with
 |nil=>cases h
 |cons q r ih =>
  obtain⟨b,o⟩:=q;rw[List.lookup_cons] at h
  by_cases z:a=b
  ·subst z;simp at h;subst h;exact List.mem_cons_self
  ·have zb:(a==b)=false:=by simpa using z
   rw[zb] at h;exact List.mem_cons_of_mem _ (ih h)
theorem uZ (F:Ef X.prog X.w X.K X.mg X.base CX k f fd ps sp)(hr:Fq k X.A)(hg:Gl X x)(hm:X.mg x=some (.ref f))(hk:keepIn X.K (.ref f)=true)(hb:az X.K fd ps [])(hx:∀(H:Hp)(s:Fp)(e:Value)(s':Fp),CX X.stack H s (λ_ _ _=>False) e s'->False)
 (hy:js.map (λj=>X.N[j]?)=ys.map some)(hc:∀y∈ys,X.env.kindOf y=some .cell)(hf:∀y∈ys,X.fn y=true)(ha:PA X (e::es) t)(Iz:(x==("__debug__":Str))=false:=by decide)(he:starEach (e::es) X.env=(false,eval e X.env):: starEach es X.env:=by rfl)(HA:(backTo pos (starEach es X.env)).any (·.1)=false:=by rfl):
 PE X (.Call (.Name x p) (e::es) [] pos) (wY (ys.map (eB X)) js sp t):=by
 intro pins s σ H Q I h;refine wpAny_Call_Name_kw (fj I hg hm ?_ Iz);refine callWith_K (h₀:=X.base) I.ok.mod.kin hk (bA (ha pos pins s σ H _ I h) λus s1 ⟨vs,H1,I1,r,ws,ew,q⟩=>⟨I1.kIn,?_⟩) he HA;obtain⟨os,ro,g⟩:=lZ I1 ys js ws hy ew hc hf
 have free:∀c∈ys.map (eB X),H1 c=none:=λc Rh=>by
  obtain⟨y,Zi,rfl⟩:=List.mem_map.mp Rh;have ec:=I1.ok.has y (.inl (hc y Zi));obtain⟨c,ec⟩:=ec
  have Mw:eB X y=c:=by unfold eB;rw[ec];rfl
  rw[Mw];exact I1.aag y c ec
 refine yn (cs:=(ys.map (eB X)).zip os) F hr hb (λH e s' z=>hx H s1 e s' z) I1 (λa v e=>?_) (λa v e Gs=>?_) (λa v e=>?_) r (q os ro free)
 ·have z:=g _ (dQ e);exact⟨z.1,z.2.1⟩
 ·exact(g _ (dQ e)).2.2.1 Gs
 ·exact(g _ (dQ e)).2.2.2
end
end L2
namespace K26
open PySem L2 PySem.W Nm
noncomputable abbrev mf:Stmt:=bq (aJ 30) 11
variable {H:Hp}{x:V}
theorem Th.same {H':Hp}{T:String}(h:Th H x T)(s:ax H H'):Th H' x T:=by
 cases h with
 |non=>exact .non
 |bl b=>exact .bl b
 |int i=>exact .int i
 |str x=>exact .str x
 |lst e=>exact .lst (s _ _ e)
 |tup e=>exact .tup (s _ _ e)
 |dK e=>exact .dK (s _ _ e)
inductive TX (H:Hp):V->Option (V×V)->Prop where
 |no {x:V}{T:String}:Th H x T->T ≠ "tuple"->TX H x none
 |odd {a:Addr}{xs:List V}:H a=some (.tup xs)->xs.length≠2->TX H (.ref a) none
 |two {a:Addr}{y z:V}{Ty Tz:String}:H a=some (.tup [y,z])->Th H y Ty->Th H z Tz->TX H (.ref a) (some (y,z))
theorem TX.same {H':Hp}{o:Option (V×V)}(h:TX H x o)(s:ax H H'):TX H' x o:=by
 cases h with
 |no th n=>exact .no (th.same s) n
 |odd e n=>exact .odd (s _ _ e) n
 |two e h1 h2=>exact .two (s _ _ e) (h1.same s) (h2.same s)
noncomputable def xG (p:Int):Option (V×V)->Bool
 |some (.int t,.int b)=>if p=0 then decide (1<=b)&&decide (Int.gcd t b=1) else decide (b=1)&&(decide (0<=t)&&decide (t<p))
 |_=>false
theorem Th.isTup {K:Frag}{T:String}(h:Th H x T):kitOne K (.type T) (.type "tuple")=some (decide (T="tuple")):=by cases h <;> rfl
noncomputable def jJ (C:Addr):Sp:=λvs H Q _=>∃(s dx:Addr)(p:Int)(x:V)(o:Option (V×V)),vs=[.ref s,x]/\H s=some (.ins C dx (dR p))/\FP p/\TX H x o/\Q (.bl (xG p o)) H
variable {P:zO}{w:World}{K:PySem.W.Frag}{mg:yN}{base:Heap}
theorem gS:yd ["self","thing","top","bottom"] yL (ak mf):=c9 (by decide +kernel)
theorem oH {f C fg fw:Addr}{fd Kj G4:vH}{tF:Tok}(F:xR K "is_number" "Field.is_number" mf f fd)(c:oO K mg C)(mF:mg "FRACTIONS"=some (.int 0 tF))(n:uf mg)(mT:mg "tuple"=none)(mN:mg "len"=none)
 (FG:Ef P w K mg base (aO P w) 1 fg Kj oo Ba)(bG:L2.az K Kj oo [])(mG:mg "common_divisor"=some (.ref fg))(kG:keepIn K (.ref fg)=true)
 (FW:Ef P w K mg base (aO P w) 1 fw G4 uI t6)(bW:L2.az K G4 uI [])(mW:mg "is_whole"=some (.ref fw))(kW:keepIn K (.ref fw)=true):Ef P w K mg base (aO P w) 2 f fd yL (jJ C):=by
 refine F.okN gS (λvs H Q E h=>?_) (λFV A outer s H vs Q E hr h=>?_)
 ·obtain⟨s,dx,p,x,o,rfl,_⟩:=h;rfl
 ·obtain⟨s,dx,p,x,o,rfl,hs,hp,tx,q⟩:=h
  refine⟨_,ao (bc (PW.pt (eX (bR (b8 (aB aN (by rfl) n.isi (by rfl) (aj (pv 1) (aj (cH (by rfl) mT (by rfl) (show aD (.ty "tuple") (.type "tuple") from rfl)) ag)))))
   (dA (aI gI (aB bJ (by rfl) mN PySem.boot_len (aj (pv 1) ag)) ah (aK _))))) (au (ay dG)) aF)
   (ao (i8 (pv 1) (cf rfl (aC (aA (i:=2) gS.nd rfl (Or.inl rfl)) (aC (aA (i:=3) gS.nd rfl (Or.inl rfl)) bH))))
   (ao (bc (PW.pt (eX (bR (b8 (av FW hr (by rfl) mW kW bW .nil af (aj (pv 2) ag)))) (dA (bR (b8 (av FW hr (by rfl) mW kW bW .nil af (aj (pv 3) ag))))))) (au (ay dG)) aF)
   (ao (bc (aI du (dF (pv 0) rfl) (cz (by rfl) mF (show aD (.int 0) (.int 0 tF) from⟨_,rfl⟩)) (aK _))
    (au (ay (dB (dC zF (pv 3) ah (aK _)) (eF (dC du (av FG hr (by rfl) mG kG bG .nil af (aj (pv 2) (aj (pv 3) ag))) ah (aK _)))))) aF)
   (au (ay (dB (dC du (pv 3) ah (aK _)) (eF (jU fK jE ah (pv 2) (dF (pv 0) rfl))))))))),?_⟩
  cases tx with
  |@no x T th ne =>
   refine⟨_,rfl,x,.ty "tuple",_,_,_,rfl,rfl,th.ty,th.isTup,_,rfl,?_⟩;rw[decide_eq_false ne];exact aW (aW q)
  |@odd a xs ha hl =>
   refine⟨_,rfl,.ref a,.ty "tuple",_,_,_,rfl,rfl,.of (.tup ha),rfl,_,rfl,bD ?_⟩;refine⟨_,rfl,a,_,rfl,.inr (bx.of ha),rfl,_,rfl,?_⟩;refine cp (λ_=>q) (λh=>absurd (by simp;omega) h)
  |@two a y z Ty Tz ha hy hz =>
   refine⟨_,rfl,.ref a,.ty "tuple",_,_,_,rfl,rfl,.of (.tup ha),rfl,_,rfl,bD ?_⟩;refine⟨_,rfl,a,_,rfl,.inr (bx.of ha),rfl,_,rfl,?_⟩;refine cp (λh=>absurd h (by simp)) (λ_=>?_);refine⟨_,rfl,a,_,rfl,bx.of ha,rfl,_,_,rfl,_,_,rfl,rfl,?_⟩;refine⟨_,rfl,y,Ty,rfl,hy,_,rfl,?_⟩
   cases e1:dH y with
   |false =>
    have z1:xG p (some (y,z))=false:=by cases y <;> first|rfl|cases e1
    rw[z1] at q;exact aW (aW q)
   |true =>
    refine bD ⟨_,rfl,z,Tz,rfl,hz,_,rfl,?_⟩
    cases e2:dH z with
    |false =>
     have z1:xG p (some (y,z))=false:=by cases y <;> cases z <;> first|rfl|cases e2
     rw[z1] at q;exact aW q
    |true =>
     have z1:∃t,y=.int t:=by cases y <;> first|exact⟨_,rfl⟩|cases e1
     have z2:∃b,z=.int b:=by cases z <;> first|exact⟨_,rfl⟩|cases e2
     obtain⟨t,rfl⟩:=z1;obtain⟨b,rfl⟩:=z2;refine bD ?_;refine⟨_,rfl,s,C,dx,_,_,rfl,hs,c.cl,c.nP,rfl,rfl,_,rfl,?_⟩;refine cp (λh=>?_) (λh=>?_)
     ·have Hg:p=0:=by simpa using h
      have z1:xG p (some (.int t,.int b))=(decide (1<=b)&&decide (Int.gcd t b=1)):=by simp[xG,Hg]
      rw[z1] at q;refine⟨_,rfl,_,_,rfl,rfl,_,rfl,?_⟩;refine cp (λh1=>?_) (λh1=>?_)
      ·refine⟨_,rfl,_,rfl,t,b,rfl,rfl,?_⟩
       have e3:decide (V.int (df t b)=V.int 1)=decide (Int.gcd t b=1):=by
        unfold df
        by_cases g:Int.gcd t b=1
        ·simp[g]
        ·have:¬((Int.gcd t b:Nat):Int)=1:=by omega
         simp[g,this]
       have JI:decide (1<=b)=true:=h1;rw[JI,Bool.true_and,<-e3] at q;exact q
      ·have JI:decide (1<=b)=false:=by simpa using h1
       rw[JI,Bool.false_and] at q;exact q
     ·have Hg:p≠0:=by simpa using h
      have z1:xG p (some (.int t,.int b))=(decide (b=1)&&(decide (0<=t)&&decide (t<p))):=by simp[xG,Hg]
      rw[z1] at q;refine⟨_,rfl,rfl,_,rfl,?_⟩;refine cp (λh1=>?_) (λh1=>?_)
      ·have JI:decide (b=1)=true:=by simpa using h1
       rw[JI,Bool.true_and] at q;refine⟨_,rfl,_,_,rfl,rfl,_,rfl,?_⟩;refine cp (λh2=>?_) (λh2=>?_)
       ·refine⟨_,rfl,s,C,dx,_,_,rfl,hs,c.cl,c.nP,rfl,_,_,rfl,rfl,?_⟩;have My:decide (0<=t)=true:=h2;rw[My,Bool.true_and] at q;exact q
       ·have My:decide (0<=t)=false:=by simpa using h2
        rw[My,Bool.false_and] at q;exact q
      ·have JI:decide (b=1)=false:=by simpa using h1
       rw[JI,Bool.false_and] at q;exact q
end K26
namespace L2
open PySem PySem.Spec PyProof.Rows PySem.W
noncomputable def Ds:V->Bool->Prop
 | .bl b,c=>c=b
 | .int i,c=>c=(i != 0)
 |_,_=>False
theorem cn {α β:Type}{R:α->β->Prop}:∀{l:List α}{m:List β}{i:Nat}{a:α},Paired R l m->l[i]?=some a->∃b,m[i]?=some b/\R a b
 |[],_,i,a,h,e=>by simp at e
 |x::l,_,i,a,h,e=>by
  cases h with
  |cons h1 h2 =>
   cases i with
   |zero=>simp at e;subst e;exact⟨_,rfl,h1⟩
   |succ i=>simpa using cn h2 (by simpa using e)
theorem j3 {α β:Type}{R:α->β->Prop}:∀{l:List α}{m:List β}{i:Nat}{b:β},Paired R l m->m[i]?=some b->∃a,l[i]?=some a/\R a b
 |[],m,i,b,h,e=>by cases h;simp at e
 |x::l,_,i,b,h,e=>by
  cases h with
  |cons h1 h2 =>
   cases i with
   |zero=>simp at e;subst e;exact⟨_,rfl,h1⟩
   |succ i=>simpa using j3 h2 (by simpa using e)
section
variable {X:Cx}
theorem Aq {A:Around}{Q:Bool->Shared->Prop}{E:oP}{s:Fp}{y:V}{c:Bool}{u:Value}(t:Ds y c)(r:aD y u)(h:Q c s):wpAny (model X.prog X.w) A (truthy u) Q E s:=by
 cases y with
 |bl b =>
  cases(show u=Value.bool b from r)
  cases(show c=b from t)
  exact wpAny_truthy_bool h
 |int i =>
  obtain⟨k,rfl⟩:=(show ∃k,u=Value.int i k from r)
  cases(show c=(i != 0) from t)
  exact PyProof.Rows.truthy_int h
 |_=>exact t.elim
theorem gh (hc:X.calm=true):dE X (.builtin "all") (λxs H Q=>∃l ys bs,xs=[.ref l]/\ba X.K H l ys/\Paired Ds ys bs/\Q (.bl (bs.all id)) H):=by
 intro pins s σ H xs us Q I r h;obtain⟨l,ys,bs,rfl,hl,hp,q⟩:=h;obtain⟨u,rfl,ru⟩:=eO r
 cases(show u=Value.ref l from ru)
 obtain⟨its,rv,pl,hz⟩:=I.list hl
 have FY:l<s.heap.objs.size:=by obtain⟨o,n,e,_⟩:=pl;exact Heap.lt_size e
 refine call_all_walk (wpAny_pyIter_list pl.isList ?_)
 refine⟨s.heap.objs.size,[s.heap.objs.size,l],[s.heap.objs.size],its.toArray.size,_,_,λi=>(bs[i]?).getD true,rfl,Walks.list (A:=X.A.in1) (I.ok.hd hc) _ l (Nat.ne_of_lt FY) its.toArray,
  ⟨⟨_,Heap.get?_push_size _ rfl,rfl,rfl⟩,pl.isList.push _⟩,λi v s' Q' E' hP hQ=>?_,λh' tk hk=>?_⟩
 ·have e:its[i]?=some v:=by simpa using hP
  obtain⟨y,ey,ry⟩:=j3 rv e;obtain⟨b,eb,tb⟩:=cn hp ey;simp only[eb,Option.getD_some] at hQ;exact Aq tb ry hQ
 ·have n:its.toArray.size=bs.length:=by rw[List.size_toArray,<-rv.length,hp.length]
  have e:((List.range its.toArray.size).all λi=>(bs[i]?).getD true)=bs.all id:=by rw[n];exact LSm.range_all bs
  rw[e];exact⟨.bl (bs.all id),H,I.kept (t':=tk) (LSm.kept_iter hk),rfl,q⟩
end
section
variable {X:Cx}{pins:List (Addr×Obj)}{σ:St}{H:Hp}{s:Fp}{h':Heap}
theorem Inv.abY (I:Inv X pins σ H s){a:Addr}(hp:s.heap.get? a=none):H a=none:=by
 cases q:H a with
 |none=>rfl
 |some u =>
  obtain⟨ob,e1⟩:=(I.hok a u q).there;rw[hp] at e1
  cases e1
theorem Inv.newObj {a:Addr}{o:HO}{t':Nat}(I:Inv X pins σ H s)(k:∀b u,s.heap.get? b=some u->h'.get? b=some u)(hp:s.heap.get? a=none)(new:br X.prog X.w (upd H a o) h' a o):
 Inv X pins σ (upd H a o) {s with heap:=h',toks:=t'}:=by
 have hn:=I.abY hp
 have nb:∀b u,s.heap.get? b=some u->b≠a:=λb u e z=>by rw[z,hp] at e;cases e
 exact I.un ⟨λb u q _ _ _=>k b u q,λb u q _ _ _=>⟨u.slots,k b u q⟩,λb u q n _=>by rw[ai (nb b u q)];exact n,λb u q _=>⟨u,k b u q⟩,
  λb xs q=>by rw[ai (ar q hn)];exact q,λb u xs q=>by rw[ai (ar q hn)];exact q,λb ps q=>⟨#[],by rw[ai (ar q hn),q];simp⟩⟩ (c7 (I.hok.kept k) hn new)
end
end L2
namespace JJ
open PySem PySem.W PyProof.Rows
variable {i:Nat}
section
variable {prog:zO}{w:World}{A:Around}{E:oP}{s:Fp}{d it:Addr}{es:Array DictEntry}{ep:Nat}{o:Obj}
structure Raw (h:Heap)(d:Addr)(es:Array DictEntry)(ep:Nat):Prop where
 ex:∃o,h.get? d=some o/\o.ExactDict/\o.data=.dict es ep
theorem Raw.ty (r:Raw s.heap d es ep):s.TypeIs (.ref d) "dict":=let⟨o,h,x,_⟩:=r.ex;⟨o,h,x.1⟩
theorem Raw.keep {h h':Heap}(r:Raw h d es ep)(k:∀o,h.get? d=some o->h'.get? d=some o):Raw h' d es ep:=let⟨o,h1,x⟩:=r.ex;⟨o,k o h1,x⟩
theorem pT {Q:oP}(r:Raw s.heap d es ep)(hd:(d==sysModules)=false)(h:Q (.ref s.heap.objs.size) {s with heap:=s.heap.push {cls:=.type "dict_items",data:=.fields #[.ref d]} }):
 wpAny (model prog w) A (call (.builtin "dict.items") [.ref d]) Q E s:=by
 refine wpAny_call_entry F.slot_dict_items r.ty F.entry_dict_items ?_ (F.args_dict_items_1 _);unfold Builtin.«dict.items» Builtin.Dict.noArgs;refine wpAny_bind (wpAny_bind (wpAny_notOrdered_dict r.ty (wpAny_pure ?_)));show wpAny _ _ (Builtin.Dict.showsAll d>>=_) _ _ s;unfold Builtin.Dict.showsAll;rw[if_neg (by rw[hd];exact Bool.false_ne_true)];exact wpAny_bind (wpAny_pure (wpAny_bind (wpAny_newObj_type (wpAny_pure ⟨_,rfl,h⟩))))
theorem pO {v:Addr}{Q:oP}(hv:s.heap.IsItemsView v d)(r:Raw s.heap d es ep)
 (hQ:Q (.ref s.heap.objs.size) {s with heap:=s.heap.push {cls:=.type "dict_itemiterator",data:=.fields #[.none,.bool false,.ref d,.int 0 0,.int es.size 0,.int ep 0,.none,.none]} }):wpAny (model prog w) A (pyIter (.ref v)) Q E s:=by
 obtain⟨ov,g1,g2,g3⟩:=id hv;obtain⟨o,h1,h2,h3⟩:=r.ex;refine wpAny_pyIter_slot hv.typeIs F.slot_dict_items_iter (wpAny_call_entry F.slot_dict_items_iter hv.typeIs F.entry_dict_items_iter ?_ (F.args_dict_items_iter_1 _));unfold Builtin.«dict_items.__iter__» Builtin.Dict_items.dictOf;refine wpAny_bind (wpAny_pure (wpAny_bind (wpAny_bind (wpAny_field g1 g3 (x:=.ref d) rfl (wpAny_pure (wpAny_bind ?_))))));unfold Builtin.Dict_items.newIterator;refine wpAny_bind (wpAny_dictEntries h1 h3 (wpAny_bind (wpAny_dictEpoch h1 h3 ?_)));simp only[show Builtin.Dict_items.ownsTuple "dict_itemiterator"=true from by decide,if_true];refine wpAny_newObj_type (wpAny_pure ⟨_,rfl,"dict_itemiterator",_,⟨_,Heap.get?_push_size _ rfl,rfl⟩,F.slot_dict_itemiterator_next.lookup,?_⟩) (by simp only[sizeOk,Builtin.Dict_items.ownedTupleFields,List.size_toArray,List.length_append,List.length_cons,List.length_nil,sizeLine_eq];omega);simpa[rawInt,Builtin.Dict_items.ownedTupleFields] using hQ
theorem pH {ok ov:Value}{Q:Option Value->Shared->Prop}(hit:IsItemIter s.heap it d i es.size ep ok ov)(r:Raw s.heap d es ep)(hi:i<es.size)
 (hQ:∀h',IsItemIterOut h' it d (i+1) es.size ep es[i].key es[i].val s.heap.objs.size->h'.get? s.heap.objs.size=some {cls:=.type "tuple",data:=.seq #[es[i].key,es[i].val]}->h'.objs.size=s.heap.objs.size+1 →
  (∀b o,b≠it->s.heap.get? b=some o->h'.get? b=some o)->Q (some (.ref s.heap.objs.size)) {s with heap:=h'}):wpAny (model prog w) A (pyNext (.ref it)) Q E s:=by
 obtain⟨hp,g,dr,tk,os⟩:=s;obtain⟨o,h1,h2,h3⟩:=r.ex;have hT:Shared.TypeIs ⟨hp,g,dr,tk,os⟩ (.ref it) "dict_itemiterator":=⟨_,hit,rfl⟩;unfold pyNext;refine wpAny_bind (wpAny_attempt (wpAny_callSpecial?_slot (name:=Str.ofString "__next__") hT F.slot_dict_itemiterator_next (wpAny_call_entry F.slot_dict_itemiterator_next hT F.entry_dict_itemiterator_next ?_ (F.args_dict_itemiterator_next_1 _))));refine wpAny_bind (wpAny_pure (wpAny_bind (wpAny_bind ?_)))
 first|refine wpAny_bind (wpAny_typeNameOfWhole_itemiter hT (wpAny_pure (wpAny_bind (wpAny_fieldsOf hit rfl ?_))))|refine wpAny_bind (wpAny_typeNameOf_itemiter hT (wpAny_pure (wpAny_bind (wpAny_fieldsOf hit rfl ?_))))
 simp only[show Builtin.Dict_items.ownsTuple "dict_itemiterator"=true from by decide,if_true];show wpAny _ _ (if(Value.ref d==Value.none)=true then _ else _) _ _ _;rw[if_neg (show ¬((Value.ref d==Value.none)=true) from Bool.false_ne_true)];refine wpAny_bind (wpAny_pure (wpAny_bind (wpAny_dictEntries h1 h3 ?_)));rw[if_neg (by simp)];refine wpAny_bind (wpAny_pure (wpAny_bind (wpAny_dictEpoch h1 h3 ?_)));rw[if_neg (by simp)];refine wpAny_pure ?_;simp only[show ¬((i:Int)<0) from by omega,if_false,Int.toNat_natCast,Array.getElem?_eq_getElem hi];refine wpAny_bind ?_
 first|refine wpAny_bind (wpAny_typeNameOfWhole_itemiter hT (wpAny_pure (wpAny_bind (wpAny_isOneOf_itemiter hT ?_))))|refine wpAny_bind (wpAny_typeNameOf_itemiter hT (wpAny_pure (wpAny_bind (wpAny_isOneOf_itemiter hT ?_))))
 show wpAny _ _ (setField (.ref it) 3 (rawInt ((i:Int)+1))>>=_) _ _ ⟨hp,g,dr,tk,os⟩;refine wpAny_bind (wpAny_setField_rec hit (by simp) λk1 e1 (b1:Heap.SameBut it hp k1)=>?_)
 have q1:IsItemIter k1 it d (i+1) es.size ep ok ov:=by
  unfold IsItemIter;rw[show((i+1:Nat):Int)=(i:Int)+1 by omega];simpa[rawInt] using e1
 have t1:Shared.TypeIs ⟨k1,g,dr,tk,os⟩ (.ref it) "dict_itemiterator":=⟨_,q1,rfl⟩;refine wpAny_bind (wpAny_holding (wpAny_bind (wpAny_isOneOf_itemiter t1 (wpAny_bind (wpAny_isOneOf_itemiter t1 ?_)))));show wpAny _ _ (Builtin.Dict_items.pairFromOwner (.ref it) 6 es[i].key es[i].val) _ _ ⟨k1,g,dr,tk,os⟩;unfold Builtin.Dict_items.pairFromOwner;refine wpAny_bind (wpAny_newTuple ?_);have q2:IsItemIter (k1.push {cls:=.type "tuple",data:=.seq #[es[i].key,es[i].val]}) it d (i+1) es.size ep ok ov:=Heap.get?_push_of_some _ q1;have z1:k1.objs.size=hp.objs.size:=b1.1;have ne:hp.objs.size≠it:=Nat.ne_of_gt (Heap.lt_size hit)
 have w2:(k1.push {cls:=.type "tuple",data:=.seq #[es[i].key,es[i].val]}).get? hp.objs.size=some {cls:=.type "tuple",data:=.seq #[es[i].key,es[i].val]}:=by rw[<-z1];exact Heap.get?_push_size _ rfl
 have z2:(k1.push {cls:=.type "tuple",data:=.seq #[es[i].key,es[i].val]}).objs.size=hp.objs.size+1:=by rw[Heap.size_push,z1]
 have p2:∀b o,b≠it->hp.get? b=some o->(k1.push {cls:=.type "tuple",data:=.seq #[es[i].key,es[i].val]}).get? b=some o:=λb o hb e=>Heap.get?_push_of_some _ (b1.extBut b o hb e);show wpAny _ _ (Builtin.Dict_items.ownedTupleIsFree (.ref it)>>=_) _ _ ⟨k1.push {cls:=.type "tuple",data:=.seq #[es[i].key,es[i].val]},g,dr,tk,os⟩;rw[z1];generalize k1.push {cls:=.type "tuple",data:=.seq #[es[i].key,es[i].val]}=k2 at q2 w2 z2 p2 |-;unfold Builtin.Dict_items.ownedTupleIsFree;refine wpAny_bind (wpAny_bind (wpAny_field q2 rfl (x:=.none) rfl (wpAny_pure ?_)));simp only[if_true];refine wpAny_bind (wpAny_field q2 rfl (x:=ok) rfl (wpAny_bind (wpAny_field q2 rfl (x:=ov) rfl (wpAny_bind (wpAny_setField_rec q2 (by simp) λk3 e3 (b3:Heap.SameBut it k2 k3)=>?_)))));have q3:IsItemIter k3 it d (i+1) es.size ep es[i].key ov:=e3;refine wpAny_bind (wpAny_setField_rec q3 (by simp) λk4 e4 (b4:Heap.SameBut it k3 k4)=>?_);have q4:IsItemIter k4 it d (i+1) es.size ep es[i].key es[i].val:=e4;refine wpAny_bind (wpAny_setField_rec q4 (by simp) λk5 e5 (b5:Heap.SameBut it k4 k5)=>?_);have q5:IsItemIterOut k5 it d (i+1) es.size ep es[i].key es[i].val hp.objs.size:=e5;refine wpAny_bind (wpAny_setField_rec q5 (by simp) λk6 e6 (b6:Heap.SameBut it k5 k6)=>?_);have q6:IsItemIterOut k6 it d (i+1) es.size ep es[i].key es[i].val hp.objs.size:=e6;have go:∀b o,b≠it->k2.get? b=some o->k6.get? b=some o:=λb o hb e=>b6.extBut b o hb (b5.extBut b o hb (b4.extBut b o hb (b3.extBut b o hb e)));exact wpAny_bind (wpAny_letGo (wpAny_pure (wpAny_pure ⟨_,rfl,wpAny_pure (hQ k6 q6 (go _ _ ne w2) (by show k6.objs.size=hp.objs.size+1;rw[b6.1,b5.1,b4.1,b3.1,z2]) λb o hb e=>go b o hb (p2 b o hb e))⟩)))
theorem ur {ok ov:Value}{Q:Option Value->Shared->Prop}(hh:A.handled=none)(hit:IsItemIter s.heap it d i es.size ep ok ov)(r:Raw s.heap d es ep)(hi:es.size<=i)
 (hQ:∀h',Heap.ExtBut it s.heap h'->Q none {s with heap:=h'}):wpAny (model prog w) A (pyNext (.ref it)) Q E s:=by
 obtain⟨o,h1,h2,h3⟩:=r.ex;have hT:s.TypeIs (.ref it) "dict_itemiterator":=⟨_,hit,rfl⟩;unfold pyNext;refine wpAny_bind (wpAny_attempt (wpAny_callSpecial?_slot (name:=Str.ofString "__next__") hT F.slot_dict_itemiterator_next (wpAny_call_entry F.slot_dict_itemiterator_next hT F.entry_dict_itemiterator_next ?_ (F.args_dict_itemiterator_next_1 _))));refine wpAny_bind (wpAny_pure (wpAny_bind (wpAny_bind ?_)))
 first|refine wpAny_bind (wpAny_typeNameOfWhole_itemiter hT (wpAny_pure (wpAny_bind (wpAny_fieldsOf hit rfl ?_))))|refine wpAny_bind (wpAny_typeNameOf_itemiter hT (wpAny_pure (wpAny_bind (wpAny_fieldsOf hit rfl ?_))))
 simp only[show Builtin.Dict_items.ownsTuple "dict_itemiterator"=true from by decide,if_true];show wpAny _ _ (if(Value.ref d==Value.none)=true then _ else _) _ _ _;rw[if_neg (show ¬((Value.ref d==Value.none)=true) from Bool.false_ne_true)];refine wpAny_bind (wpAny_pure (wpAny_bind (wpAny_dictEntries h1 h3 ?_)));rw[if_neg (by simp)];refine wpAny_bind (wpAny_pure (wpAny_bind (wpAny_dictEpoch h1 h3 ?_)));rw[if_neg (by simp)];refine wpAny_pure ?_;simp only[show ¬((i:Int)<0) from by omega,if_false,Int.toNat_natCast,Array.getElem?_eq_none hi];refine wpAny_bind ?_
 first|refine wpAny_bind (wpAny_typeNameOfWhole_itemiter hT (wpAny_pure ?_))|refine wpAny_bind (wpAny_typeNameOf_itemiter hT (wpAny_pure ?_))
 show wpAny _ _ (setField (.ref it) 2 .none>>=_) _ _ s;refine wpAny_bind (wpAny_setField hit rfl (by simp) ?_);show wpAny _ _ (newExc (.type "StopIteration") []>>=_) _ _ _;refine wpAny_bind ?_;simp only[newExc,newTuple];refine wpAny_bind (wpAny_newObj_type (wpAny_bind (m:=firstArgMember _ _) (wpAny_of_eq (a:=Value.none) (by first|rfl|(simp only[firstArgMember];rfl)) (wpAny_newObj_type ?_ (by size_fits)))) (by size_fits));simp only[raiseNew];refine wpAny_bind (wpAny_handled ?_);rw[show A.in1.handled=none from hh];refine wpAny_bind (wpAny_pure (wpAny_throw ?_));refine wpAny_bind (wpAny_isInstance (T:="StopIteration") (b:=true) ⟨_,Heap.get?_push_size _ rfl,rfl⟩ isSubtype_stop ?_);exact wpAny_pure (hQ _ (((Heap.SameBut.update ..).extBut.push _).push _))
theorem uO {Q:oP}(r:Raw s.heap d es ep)(hd:(d==sysModules)=false)
 (hQ:Q (.ref s.heap.objs.size) {s with heap:=s.heap.push {cls:=.type "dict_keyiterator",data:=.fields #[.ref d,.int 0 0,.int es.size 0,.int ep 0]} }):wpAny (model prog w) A (pyIter (.ref d)) Q E s:=by
 obtain⟨o,h1,h2,h3⟩:=r.ex;refine wpAny_pyIter_slot r.ty F.slot_dict_iter (wpAny_call_entry F.slot_dict_iter r.ty F.entry_dict_iter ?_ (F.args_dict_iter_1 _));unfold Builtin.«dict.__iter__» Builtin.Dict.dictSlotNone;refine wpAny_bind (wpAny_bind (wpAny_notOrdered_dict r.ty (?_:wpAny _ _ (pure (Value.ref d)) _ _ s)));refine wpAny_pure ?_;show wpAny _ _ (Builtin.Dict.showsAll d>>=_) _ _ s;unfold Builtin.Dict.showsAll;rw[if_neg (by rw[hd];exact Bool.false_ne_true)];refine wpAny_bind (wpAny_pure (wpAny_bind (wpAny_dictEntries h1 h3 (wpAny_bind (wpAny_dictEpoch h1 h3 (wpAny_bind (wpAny_newObj_type (wpAny_pure ⟨_,rfl,"dict_keyiterator",_,⟨_,Heap.get?_push_size _ rfl,rfl⟩,F.slot_dict_keyiterator_next.lookup,?_⟩))))))));simpa[rawInt] using hQ
theorem uh {Q:Option Value->Shared->Prop}(hit:s.heap.IsKeyIter it d i es.size ep)(r:Raw s.heap d es ep)(hi:i<es.size)
 (hQ:∀h',h'.IsKeyIter it d (i+1) es.size ep->Heap.SameBut it s.heap h'->Q (some es[i].key) {s with heap:=h'}):wpAny (model prog w) A (pyNext (.ref it)) Q E s:=by
 obtain⟨oi,g1,g2,g3⟩:=id hit;obtain⟨o,h1,h2,h3⟩:=r.ex;have hT:=hit.typeIs;unfold pyNext;refine wpAny_bind (wpAny_attempt (wpAny_callSpecial?_slot (name:=Str.ofString "__next__") hT F.slot_dict_keyiterator_next (wpAny_call_entry F.slot_dict_keyiterator_next hT F.entry_dict_keyiterator_next ?_ (F.args_dict_keyiterator_next_1 _))));refine wpAny_bind (wpAny_pure (wpAny_bind (wpAny_bind ?_)))
 first|refine wpAny_bind (wpAny_typeNameOfWhole_keyiter hT (wpAny_pure (wpAny_bind (wpAny_fieldsOf g1 g3 ?_))))|refine wpAny_bind (wpAny_typeNameOf_keyiter hT (wpAny_pure (wpAny_bind (wpAny_fieldsOf g1 g3 ?_))))
 simp only[show Builtin.Dict_items.ownsTuple "dict_keyiterator"=false from by decide,Bool.false_eq_true,if_false];show wpAny _ _ (if(Value.ref d==Value.none)=true then _ else _) _ _ _;rw[if_neg (show ¬((Value.ref d==Value.none)=true) from Bool.false_ne_true)];refine wpAny_bind (wpAny_pure (wpAny_bind (wpAny_dictEntries h1 h3 ?_)));rw[if_neg (by simp)];refine wpAny_bind (wpAny_pure (wpAny_bind (wpAny_dictEpoch h1 h3 ?_)));rw[if_neg (by simp)];refine wpAny_pure ?_;simp only[show ¬((i:Int)<0) from by omega,if_false,Int.toNat_natCast,Array.getElem?_eq_getElem hi];refine wpAny_bind ?_
 first|refine wpAny_bind (wpAny_typeNameOfWhole_keyiter hT (wpAny_pure (wpAny_bind (wpAny_isOneOf_keyiter hT ?_))))|refine wpAny_bind (wpAny_typeNameOf_keyiter hT (wpAny_pure (wpAny_bind (wpAny_isOneOf_keyiter hT ?_))))
 show wpAny _ _ (setField (.ref it) 1 (rawInt ((i:Int)+1))>>=_) _ _ s;refine wpAny_bind (wpAny_setField g1 g3 (by simp) ?_);have q1:(s.heap.update it (Obj.mapFields (·.setIfInBounds 1 (rawInt ((i:Int)+1))))).IsKeyIter it d (i+1) es.size ep:=⟨_,Heap.get?_update_self _ g1 (Obj.isFreed_of_fields (Obj.data_mapFields g3 _)),(Obj.cls_mapFields ..).trans g2,by rw[Obj.data_mapFields g3];simp[rawInt]⟩;refine wpAny_bind (wpAny_holding (wpAny_bind (wpAny_isOneOf_keyiter (s:={s with heap:=s.heap.update it (Obj.mapFields (·.setIfInBounds 1 (rawInt ((i:Int)+1))))}) q1.typeIs (?_:wpAny _ _ (pure es[i].key) _ _ _))));exact wpAny_pure (wpAny_pure ⟨_,rfl,wpAny_pure (hQ _ q1 (Heap.SameBut.update ..))⟩)
theorem xA {Q:Option Value->Shared->Prop}(hh:A.handled=none)(hit:s.heap.IsKeyIter it d i es.size ep)(r:Raw s.heap d es ep)(hi:es.size<=i)
 (hQ:∀h',Heap.ExtBut it s.heap h'->Q none {s with heap:=h'}):wpAny (model prog w) A (pyNext (.ref it)) Q E s:=by
 obtain⟨oi,g1,g2,g3⟩:=id hit;obtain⟨o,h1,h2,h3⟩:=r.ex;have hT:=hit.typeIs;unfold pyNext;refine wpAny_bind (wpAny_attempt (wpAny_callSpecial?_slot (name:=Str.ofString "__next__") hT F.slot_dict_keyiterator_next (wpAny_call_entry F.slot_dict_keyiterator_next hT F.entry_dict_keyiterator_next ?_ (F.args_dict_keyiterator_next_1 _))));refine wpAny_bind (wpAny_pure (wpAny_bind (wpAny_bind ?_)))
 first|refine wpAny_bind (wpAny_typeNameOfWhole_keyiter hT (wpAny_pure (wpAny_bind (wpAny_fieldsOf g1 g3 ?_))))|refine wpAny_bind (wpAny_typeNameOf_keyiter hT (wpAny_pure (wpAny_bind (wpAny_fieldsOf g1 g3 ?_))))
 simp only[show Builtin.Dict_items.ownsTuple "dict_keyiterator"=false from by decide,Bool.false_eq_true,if_false];show wpAny _ _ (if(Value.ref d==Value.none)=true then _ else _) _ _ _;rw[if_neg (show ¬((Value.ref d==Value.none)=true) from Bool.false_ne_true)];refine wpAny_bind (wpAny_pure (wpAny_bind (wpAny_dictEntries h1 h3 ?_)));rw[if_neg (by simp)];refine wpAny_bind (wpAny_pure (wpAny_bind (wpAny_dictEpoch h1 h3 ?_)));rw[if_neg (by simp)];refine wpAny_pure ?_;simp only[show ¬((i:Int)<0) from by omega,if_false,Int.toNat_natCast,Array.getElem?_eq_none hi];refine wpAny_bind ?_
 first|refine wpAny_bind (wpAny_typeNameOfWhole_keyiter hT (wpAny_pure ?_))|refine wpAny_bind (wpAny_typeNameOf_keyiter hT (wpAny_pure ?_))
 show wpAny _ _ (setField (.ref it) 0 .none>>=_) _ _ s;refine wpAny_bind (wpAny_setField g1 g3 (by simp) ?_);show wpAny _ _ (newExc (.type "StopIteration") []>>=_) _ _ _;refine wpAny_bind ?_;simp only[newExc,newTuple];refine wpAny_bind (wpAny_newObj_type (wpAny_bind (m:=firstArgMember _ _) (wpAny_of_eq (a:=Value.none) (by first|rfl|(simp only[firstArgMember];rfl)) (wpAny_newObj_type ?_ (by size_fits)))) (by size_fits));simp only[raiseNew];refine wpAny_bind (wpAny_handled ?_);rw[show A.in1.handled=none from hh];refine wpAny_bind (wpAny_pure (wpAny_throw ?_));refine wpAny_bind (wpAny_isInstance (T:="StopIteration") (b:=true) ⟨_,Heap.get?_push_size _ rfl,rfl⟩ isSubtype_stop ?_);exact wpAny_pure (hQ _ (((Heap.SameBut.update ..).extBut.push _).push _))
end
end JJ
namespace L2
open PySem PySem.Spec PyProof.Rows PySem.W
noncomputable abbrev jm (o:Obj)(FQ:List (List Key×V)):HO:=.frz o (.dT FQ)
noncomputable def DD (d:Addr)(o:Obj)(FQ:List (List Key×V)):It :=
 ⟨λi H=>i<FQ.length/\H d=some (jm o FQ),λi H x H'=>∃p b k v,FQ[i]?=some (k,v)/\H p=none/\H b=some (.tup (k.map kV))/\x=.ref p/\H'=upd H p (.tup [.ref b,v]),λi H=>FQ.length<=i/\H d=some (jm o FQ)⟩
noncomputable def Eg (d:Addr)(o:Obj)(FQ:List (List Key×V)):It :=
 ⟨λi H=>i<FQ.length/\H d=some (jm o FQ),λi H x H'=>∃b k v,FQ[i]?=some (k,v)/\H b=some (.tup (k.map kV))/\x=.ref b/\H'=H,λi H=>FQ.length<=i/\H d=some (jm o FQ)⟩
theorem kH {α β:Type}{R:α->β->Prop}:∀{l:List α}{m:List β}{i:Nat}{a:α},Paired R l m->l[i]?=some a->∃b,m[i]?=some b/\R a b
 |_,_,_,_,.nil,e=>by simp at e
 |_,_,0,_,.cons r _,e=>by simp at e;subst e;exact⟨_,rfl,r⟩
 |_,_,i+1,a,.cons _ t,e=>by
  obtain⟨b,h1,h2⟩:=kH (i:=i) (a:=a) t (by simpa using e);exact⟨b,by simpa using h1,h2⟩
section
variable {X:Cx}{pins:List (Addr×Obj)}{σ:St}{H:Hp}{s:Fp}{d:Addr}{o:Obj}{FQ:List (List Key×V)}
theorem iT (I:Inv X pins σ H s)(e:H d=some (jm o FQ)):∃es ep,o.data=.dict es ep/\JJ.Raw s.heap d es ep/\es.size=FQ.length/\(d==sysModules)=false /\
 ∀(i:Nat)(hi:i<es.size) k v,FQ[i]?=some (k,v)->∃b,es[i].key=.ref b/\H b=some (.tup (k.map kV))/\aD v es[i].val:=by
 obtain⟨h0,z,y,xs,r,o',es,ep,h1,h2,h3,h4,h5⟩:=(show br X.prog X.w H s.heap d (jm o FQ) from I.hok d _ e);rw[h0] at h1
 cases h1
 have hl:es.size=FQ.length:=by
  rw[<-Array.length_toList,h4,List.length_map];exact(Paired.length r).symm
 refine⟨es,ep,h3,⟨_,h0,h2,h3⟩,hl,y,λi hi k v hk=>?_⟩;obtain⟨q,hq,e1,e2,e3⟩:=kH r hk
 have z1:es.toList[i]?=some (entryOfKey (tupleKind (bz X.prog X.w)) q):=by rw[h4,List.getElem?_map,hq];rfl
 have z2:es[i]=entryOfKey (tupleKind (bz X.prog X.w)) q:=by
  have z3:es.toList[i]?=some es[i]:=by simp[hi]
  rw[z3] at z1;exact Option.some.inj z1
 rw[z2];exact⟨q.2.1,rfl,e2,e3⟩
theorem Inv.freeze (I:Inv X pins σ H s)(e:H d=some (.dT FQ)):∃o,s.heap.get? d=some o/\Inv X pins σ (upd H d (jm o FQ)) s:=by
 obtain⟨z,y,xs,r,o,es,ep,h1,h2⟩:=(show br X.prog X.w H s.heap d (.dT FQ) from I.hok d _ e);refine⟨o,h1,I.write (t':=s.toks) (h':=s.heap) (x:=d) (e:=d) (o:=jm o FQ) (by rw[e];exact True.intro) (.inl rfl) (λ_ _ _ q=>q) ⟨o,h1⟩ ⟨h1,z,y,xs,?_,o,es,ep,h1,h2⟩⟩;exact Paired.aa0 r λp q w=>⟨w.1,by rw[ai (kQ w.2.1 e (by intro z;cases z))];exact w.2.1,w.2.2⟩
end
variable {P:zO}{w:World}{K:Frag}{elts:wW}{x1:Nat}{tp:Pos}
theorem pG (d it:Addr)(o:Obj)(FQ:List (List Key×V))(es:Array DictEntry)(ep:Nat)(ho:o.data=.dict es ep):Turn P w K (.Tuple elts x1 tp) (DD d o FQ) [it] it (λi h=>∃ok ov,IsItemIter h it d i es.size ep ok ov) where
 mem:=by simp
 obj:=λi h st b hb=>by
  have e:b=it:=by simpa using hb
  subst e;obtain⟨ok,ov,e⟩:=st;exact⟨_,e,λv z=>by cases z⟩
 keep:=λi h h' st k=>let⟨ok,ov,e⟩:=st;⟨ok,ov,k it (by simp) _ e⟩
 item:=by
  intro X hP hw hK hc i pins s σ H E I hf st hg;subst hP hw hK;obtain⟨FY,hd⟩:=hg;obtain⟨ok,ov,hit⟩:=st;obtain⟨Ju,J9,GO,raw,hl,hm,Nj⟩:=iT I hd;rw[ho] at GO
  cases GO
  obtain⟨f0,f1,f2,f3,f4,f5⟩:=hf it (by simp)
  have hi:i<es.size:=by omega
  refine JJ.pH hit raw hi λh' q1 q2 q3 q4=>?_;obtain⟨⟨k,v⟩,hk⟩:∃kv,FQ[i]?=some kv:=⟨FQ[i],by simp[FY]⟩;obtain⟨b,eb,hb,rv⟩:=Nj i hi k v hk;refine⟨_,rfl,wpAny_letOwnedTupleGo_items (s:={s with heap:=h'}) q1 λh2 q5 q6=>?_⟩;have Ka:s.heap.objs.size≠it:=Nat.ne_of_gt (Heap.lt_size hit);have I1:Inv X pins σ H {s with heap:=h2}:=I.turned (t':=s.toks) (λb o hb e=>(q6.2 b hb).trans (q4 b o hb e)) f0 f1 f3 f4 f5;have tup:h2.get? s.heap.objs.size=some {cls:=.type "tuple",data:=.seq #[es[i].key,es[i].val]}:=(q6.2 _ Ka).trans q2;have fr:H s.heap.objs.size=none:=I.hok.fresh (Nat.le_refl _)
  have I2:Inv X pins σ (upd H s.heap.objs.size (.tup [.ref b,v])) {s with heap:=h2}:=by
   refine⟨I1.ok,I1.os,I1.bare,?_,I1.loc,I1.cell,?_,λx c e=>?_,λp hp=>?_,c7 I1.hok fr ⟨by show 2<=sizeLine;decide,[.ref b,es[i].val],.cons rfl (.cons rv .nil),?_⟩,I1.len⟩
   ·have u:=I1.base;refine⟨u.keep,u.slot,λb' o' e n hx=>?_,u.there,λb' xs e=>?_,λb' o' u' e=>?_,λb' ps e=>?_⟩
    ·have ne:b'≠s.heap.objs.size:=Nat.ne_of_lt (Nat.lt_of_lt_of_le (Heap.lt_size e) I.sz);rw[ai ne];exact u.free b' o' e n hx
    ·rw[ai (ar (u.aam b' xs e) fr)];exact u.aam b' xs e
    ·rw[ai (ar (u.aak b' o' u' e) fr)];exact u.aak b' o' u' e
    ·obtain⟨m,q⟩:=u.aas b' ps e;exact⟨m,by rw[ai (ar q fr)];exact q⟩
   ·rw[ai (Nat.ne_of_lt I.lt)];exact I1.free
   ·obtain⟨v',q⟩:=I.cell x c e;rw[ai (Nat.ne_of_lt q.lt)];exact I1.aag x c e
   ·obtain⟨e,n,r⟩:=I1.pin p hp;have lt:p.1<s.heap.objs.size:=Heap.lt_size (I.pin p hp).1;exact⟨e,by rw[ai (Nat.ne_of_lt lt)];exact n,r⟩
   ·exact⟨_,tup,rfl,0,by rw[<-eb]⟩
  refine⟨.ref s.heap.objs.size,_,I2,rfl,⟨s.heap.objs.size,b,k,v,hk,fr,hb,rfl,rfl⟩,⟨_,_,q5⟩,λb' Gs=>?_⟩
  have e:b'=it:=by simpa using Gs
  subst e;rw[ai (Ne.symm Ka)];exact f0
 done:=by
  intro X hP hw hK hc i pins s σ H E I hf st hg;subst hP hw hK;obtain⟨FY,hd⟩:=hg;obtain⟨ok,ov,hit⟩:=st;obtain⟨Ju,J9,GO,raw,hl,hm,Nj⟩:=iT I hd;rw[ho] at GO
  cases GO
  obtain⟨f0,f1,f2,f3,f4,f5⟩:=hf it (by simp);exact JJ.ur (I.ok.hd hc) hit raw (by omega) λh' eb=>⟨rfl,I.turned (t':=s.toks) (λb o hb e=>eb b o hb e) f0 f1 f3 f4 f5⟩
 self:=λA i s Q E st h=>by
  obtain⟨ok,ov,hit⟩:=st;exact kcp_self hit h
theorem uq {tg:Expr}(d it:Addr)(o:Obj)(FQ:List (List Key×V))(es:Array DictEntry)(ep:Nat)(ho:o.data=.dict es ep):Turn P w K tg (Eg d o FQ) [it] it (λi h=>h.IsKeyIter it d i es.size ep) where
 mem:=by simp
 obj:=λi h st b hb=>by
  have e:b=it:=by simpa using hb
  subst e;obtain⟨o,e,c,d⟩:=st;exact⟨o,e,λv z=>by rw[d] at z;cases z⟩
 keep:=λi h h' st k=>st.at λo e=>k it (by simp) o e
 item:=by
  intro X hP hw hK hc i pins s σ H E I hf st hg;subst hP hw hK;obtain⟨FY,hd⟩:=hg;obtain⟨Ju,J9,GO,raw,hl,hm,Nj⟩:=iT I hd;rw[ho] at GO
  cases GO
  obtain⟨f0,f1,f2,f3,f4,f5⟩:=hf it (by simp)
  have hi:i<es.size:=by omega
  refine JJ.uh st raw hi λh' q1 q2=>?_;obtain⟨⟨k,v⟩,hk⟩:∃kv,FQ[i]?=some kv:=⟨FQ[i],by simp[FY]⟩;obtain⟨b,eb,hb,rv⟩:=Nj i hi k v hk;have I1:Inv X pins σ H {s with heap:=h'}:=I.turned (t':=s.toks) (λb o hb e=>(q2.2 b hb).trans e) f0 f1 f3 f4 f5;obtain⟨oi,e,c,dd⟩:=id q1;exact⟨_,rfl,rX (s:={s with heap:=h'}) e c dd (by decide) ⟨.ref b,H,I1,eb,⟨b,k,v,hk,hb,rfl,rfl⟩,q1,λb hb=>(hf b hb).1⟩⟩
 done:=by
  intro X hP hw hK hc i pins s σ H E I hf st hg;subst hP hw hK;obtain⟨FY,hd⟩:=hg;obtain⟨Ju,J9,GO,raw,hl,hm,Nj⟩:=iT I hd;rw[ho] at GO
  cases GO
  obtain⟨f0,f1,f2,f3,f4,f5⟩:=hf it (by simp);exact JJ.xA (I.ok.hd hc) st raw (by omega) λh' eb=>⟨rfl,I.turned (t':=s.toks) (λb o hb e=>eb b o hb e) f0 f1 f3 f4 f5⟩
 self:=λ_ _ _ _ _ st h=>wpAny_pyIter_keyiter st h
noncomputable def D9 (H1:Hp)(d:Addr)(FQ:List (List Key×V))(R:Obj->Hp->Prop):Prop:=(∃o,H1 d=some (jm o FQ)/\R o H1)\/(H1 d=some (.dT FQ)/\∀o,R o (upd H1 d (jm o FQ)))
noncomputable def vL (td:TE):TI:=λσ H R=>td σ H λx H1=>∃d FQ,x=.ref d/\D9 H1 d FQ λo H2=>R (DD d o FQ) H2
noncomputable def CZ (td:TE):TI:=λσ H R=>td σ H λx H1=>∃d FQ,x=.ref d/\D9 H1 d FQ λo H2=>R (Eg d o FQ) H2
section
variable {X:Cx}{pins:List (Addr×Obj)}{σ:St}{H:Hp}{s:Fp}
theorem wz {d:Addr}{FQ:List (List Key×V)}{R:Obj->Hp->Prop}(I:Inv X pins σ H s)(h:D9 H d FQ R):∃o H2,Inv X pins σ H2 s/\H2 d=some (jm o FQ)/\R o H2:=by
 rcases h with⟨o,e,r⟩|⟨e,r⟩
 ·exact⟨o,H,I,e,r⟩
 ·obtain⟨o,_,I2⟩:=I.freeze e;exact⟨o,_,I2,ae,r o⟩
theorem iy {oe:Expr}{td:TE}{apos Gj:Pos}(ho:PE X oe td)(IC:attributeBase oe "items" X.env (eval oe X.env)=eval oe X.env:=by rfl)(ID:(apos.endLine==Gj.line)=true:=by rfl):
 PI X (.Tuple elts x1 tp) (.Call (.Attribute oe "items" apos) [] [] Gj) (vL td):=by
 intro pins s σ H R I h;refine wpAny_Call_method0_late IC ID (bA (ho pins s σ H _ I h) λv s1 z'=>?_);obtain⟨x,H1,I1,r1,d,FQ,ex,fz⟩:=z';subst ex
 cases(show v=Value.ref d from r1)
 obtain⟨o,H2,I2,hd,rr⟩:=wz I1 fz;obtain⟨es,ep,SD,raw,hl,hm,_⟩:=iT I2 hd;refine⟨"dict","dict.items",PySem.F.plainAttrs_dict,PySem.F.slot_dict_items,PySem.F.type_dict_items,raw.ty,λa e=>?_,Calls.callWith_builtin rfl (PySem.evalArgs_none (JJ.pT raw hm ?_))⟩
 ·cases e
  obtain⟨o',h1,h2,_⟩:=raw.ex;exact⟨o',h1,h2.2.1⟩
 ·have I3:Inv X pins σ H2 {s1 with heap:=s1.heap.push {cls:=.type "dict_items",data:=.fields #[.ref d]} }:=I2.kept (t':=s1.toks) λb ob q=>Heap.get?_push_of_some _ q;refine JJ.pO (s:={s1 with heap:=s1.heap.push {cls:=.type "dict_items",data:=.fields #[.ref d]} }) ⟨_,Heap.get?_push_size _ rfl,rfl,rfl⟩ (raw.keep λo e=>Heap.get?_push_of_some _ e) ?_;generalize s1.heap.push {cls:=.type "dict_items",data:=.fields #[.ref d]}=h2 at I3 |-;refine⟨h2.objs.size,[h2.objs.size],_,DD d o FQ,H2,rfl,I3.kept (t':=s1.toks) λb ob q=>Heap.get?_push_of_some _ q,pG d _ o FQ es ep SD,⟨_,_,Heap.get?_push_size _ rfl⟩,λb hb=>?_,rr⟩
  have e:b=h2.objs.size:=by simpa using hb
  subst e;exact I3.aaK (Nat.le_refl _) (I3.hok.fresh (Nat.le_refl _))
theorem yV {tg oe:Expr}{td:TE}(ho:PE X oe td):PI X tg oe (CZ td):=by
 intro pins s σ H R I h;refine bA (ho pins s σ H _ I h) λv s1 z'=>?_;obtain⟨x,H1,I1,r1,d,FQ,ex,fz⟩:=z';subst ex
 cases(show v=Value.ref d from r1)
 obtain⟨o,H2,I2,hd,rr⟩:=wz I1 fz;obtain⟨es,ep,SD,raw,hl,hm,_⟩:=iT I2 hd;refine JJ.uO raw hm ⟨s1.heap.objs.size,[s1.heap.objs.size],_,Eg d o FQ,H2,rfl,I2.kept (t':=s1.toks) λb ob q=>Heap.get?_push_of_some _ q,uq d _ o FQ es ep SD,⟨_,Heap.get?_push_size _ rfl,rfl,rfl⟩,λb hb=>?_,rr⟩
 have e:b=s1.heap.objs.size:=by simpa using hb
 subst e;exact I2.aaK (Nat.le_refl _) (I2.hok.fresh (Nat.le_refl _))
theorem Inv.abI {s2:Fp}{T:Addr}{xs:List V}{its:xF}(I:Inv X pins σ H s)(I1:Inv X pins σ H s2)(hT:s.heap.objs.size<=T)(e:s2.heap.get? T=some {cls:=.type "tuple",data:=.seq its.toArray})(r:aR xs its)(hz:xs.length<=sizeLine):
 Inv X pins σ (upd H T (.tup xs)) s2:=by
 have fr:H T=none:=I.hok.fresh hT;refine⟨I1.ok,I1.os,I1.bare,?_,I1.loc,I1.cell,?_,λx c e=>?_,λp hp=>?_,c7 I1.hok fr ⟨hz,its,r,⟨_,e,rfl,0,rfl⟩⟩,I1.len⟩
 ·have u:=I1.base;refine⟨u.keep,u.slot,λb' o' e n hx=>?_,u.there,λb' xs e=>?_,λb' o' u' e=>?_,λb' ps e=>?_⟩
  ·have ne:b'≠T:=Nat.ne_of_lt (Nat.lt_of_lt_of_le (Heap.lt_size e) (Nat.le_trans I.sz hT));rw[ai ne];exact u.free b' o' e n hx
  ·rw[ai (ar (u.aam b' xs e) fr)];exact u.aam b' xs e
  ·rw[ai (ar (u.aak b' o' u' e) fr)];exact u.aak b' o' u' e
  ·obtain⟨m,q⟩:=u.aas b' ps e;exact⟨m,by rw[ai (ar q fr)];exact q⟩
 ·rw[ai (Nat.ne_of_lt (Nat.lt_of_lt_of_le I.lt hT))];exact I1.free
 ·obtain⟨v',q⟩:=I.cell x c e;rw[ai (Nat.ne_of_lt (Nat.lt_of_lt_of_le q.lt hT))];exact I1.aag x c e
 ·obtain⟨e,n,r⟩:=I1.pin p hp;have lt:p.1<s.heap.objs.size:=Heap.lt_size (I.pin p hp).1;exact⟨e,by rw[ai (Nat.ne_of_lt (Nat.lt_of_lt_of_le lt hT))];exact n,r⟩
theorem Inv.aaG {h':Heap}{t':Nat}{ch:List Addr}(I:Inv X pins σ H s)(k:∀b o,b∉ch->s.heap.get? b=some o->h'.get? b=some o)(hf:∀b∈ch,cq X pins H b):Inv X pins σ H {s with heap:=h',toks:=t'}:=by
 have Ka:∀b u,H b=some u->b∉ch:=λb u e z=>by rw[(hf b z).1] at e;cases e
 refine I.step (g':=s.gens) (d':=s.drawn) (ch:=ch) (λb hb=>?_) (λb o _ _ hc e _=>k b o hc e) (λb o _ _ hc e _=>⟨o.slots,k b o hc e⟩) (λ_ _ _ _ n=>n)
  (λb o hc e=>⟨o,k b o hc e⟩) (λ_ _ e=>e) (λ_ _ _ e=>e) (λb ps e=>⟨#[],by rw[e];simp⟩) (λm hm=>?_) (λb u e=>?_) I.bare
 ·obtain⟨f0,f1,f2,f3,f4,f5⟩:=hf b hb;exact⟨f3,f1,f4,f5⟩
 ·obtain⟨o,es,ep,ho,r⟩:=hm;exact⟨o,es,ep,k _ o (λz=>(hf _ z).2.1 rfl) ho,r⟩
 ·refine(I.hok b u e).aaO (λc v hc q=>k c v ?_ q) (λ_ q=>q) λ_ _ q=>q
  rcases hc with z|z
  ·rw[z];exact Ka b u e
  ·exact Ka c _ z
end
noncomputable def El (K:Frag)(a:Addr):It :=
 ⟨λi H=>∃xs x,ba K H a xs/\xs[i]?=some x,λi H x H'=>∃T y,(∀xs,ba K H a xs->xs[i]?=some y)/\H T=none/\x=.ref T/\H'=upd H T (.tup [.int i,y]),λi H=>∃xs,ba K H a xs/\xs.length<=i⟩
theorem um (a e it:Addr)(Gw:e≠it):Turn P w K (.Tuple elts x1 tp) (El K a) [e,it] e (λi h=>∃old,IsEnum h e it i old/\h.IsListIter it a i) where
 mem:=by simp
 obj:=λi h st b hb=>by
  obtain⟨old,h1,o,h2,_,h3⟩:=st
  rcases(by simpa using hb:b=e\/b=it) with z|z
  ·subst z;exact⟨_,h1,λv z=>by cases z⟩
  ·subst z;exact⟨o,h2,λv z=>by rw[h3] at z;cases z⟩
 keep:=λi h h' st k=>let⟨old,h1,h2⟩:=st;⟨old,k e (by simp) _ h1,h2.at λo q=>k it (by simp) o q⟩
 item:=by
  intro X hP hw hK hc i pins s σ H E I hf st hg;subst hP hw hK;obtain⟨xs,x,hq,hx⟩:=hg;obtain⟨its,rv,p,hz⟩:=I.list hq;obtain⟨u,hu,ru⟩:=rv.get hx;obtain⟨old,he,hit⟩:=st;refine wpAny_pyNext_enum_item he hit p.isList (x:=u) (by simpa using hu) Gw λh' q1 q2 q3 q4 q5=>?_;refine⟨_,rfl,wpAny_letOwnedTupleGo_enum (s:={s with heap:=h',toks:=s.toks+1}) q1 λh2 q6 q7=>?_⟩;have WZ:s.heap.objs.size≠e:=Nat.ne_of_gt (Heap.lt_size he)
  have I1:Inv X pins σ H {s with heap:=h2,toks:=s.toks+1}:=I.aaG (t':=s.toks+1) (ch:=[e,it]) (λb o hb z=>by
   have Gs:b≠e/\b≠it:=by simpa using hb
   exact(q7.2 b Gs.1).trans (q5 b o Gs.1 Gs.2 z)) hf
  have tup:h2.get? s.heap.objs.size=some {cls:=.type "tuple",data:=.seq #[.int i s.toks,u]}:=(q7.2 _ WZ).trans q3;have fr:H s.heap.objs.size=none:=I.hok.fresh (Nat.le_refl _);have I2:=I.abI (xs:=[.int i,x]) (its:=[.int i s.toks,u]) I1 (Nat.le_refl _) tup (.cons ⟨_,rfl⟩ (.cons ru .nil)) ic;refine⟨.ref s.heap.objs.size,_,I2,rfl,⟨s.heap.objs.size,x,λys hy=>by rw[I.aaB hy hq];exact hx,fr,rfl,rfl⟩,⟨u,q6,q2.at λo q=>(q7.2 _ (Ne.symm Gw)).trans q⟩,λb hb=>?_⟩
  have nb:b≠s.heap.objs.size:=by
   rcases(by simpa using hb:b=e\/b=it) with z|z
   ·subst z;exact Ne.symm WZ
   ·subst z;obtain⟨o,q,_⟩:=hit;exact Nat.ne_of_lt (Heap.lt_size q)
  rw[ai nb];exact(hf b hb).1
 done:=by
  intro X hP hw hK hc i pins s σ H E I hf st hg;subst hP hw hK;obtain⟨xs,hq,hx⟩:=hg;obtain⟨its,rv,p,hz⟩:=I.list hq;have hl:=rv.length;obtain⟨old,he,hit⟩:=st;obtain⟨f0,f1,f2,f3,f4,f5⟩:=hf it (by simp);exact wpAny_pyNext_enum_end (I.ok.hd hc) he hit p.isList (by simp;omega) λh' eb=>⟨rfl,I.turned (t':=s.toks) (λb o hb e=>eb b o hb e) f0 f1 f3 f4 f5⟩
 self:=λ_ _ _ _ _ st h=>let⟨old,h1,_⟩:=st;wpAny_pyIter_enum h1 h
noncomputable def Cb (K:Frag)(tl:TE):TI:=λσ H R=>aQ tl tW σ H λvs H1=>∃a xs,vs=[.ref a]/\ba K H1 a xs/\R (El K a) H1
theorem rp {X:Cx}{l:Expr}{tl:TE}{p pos:Pos}(hl:PE X l tl)(hg:Gl X "enumerate")(hm:X.mg "enumerate"=none)(hs:dN l=false:=by rfl):
 PI X (.Tuple elts x1 tp) (.Call (.Name "enumerate" p) [l] [] pos) (Cb X.K tl):=by
 intro pins s σ H R I h;refine wpAny_Call_Name_kw (dO I hg hm (by rfl) ?_ (by decide) (by decide));refine PyProof.Rows.callWith_type1 (bA (aj hl ag hs pos pins s σ H _ I h) λus s1 z'=>?_) (aV hs) rfl;obtain⟨vs,H1,I1,r1,a,xs,hv,hq,rr⟩:=z';subst hv;obtain⟨u,rfl,ru⟩:=eO r1
 cases(show u=Value.ref a from ru)
 obtain⟨its,rv,pl,hz⟩:=I1.list hq;refine call_enumerate_list pl.isList λh' q1 q2 q3 q4=>?_;have I2:Inv X pins σ H1 {s1 with heap:=h'}:=I1.kept (t':=s1.toks) q4;refine wpAny_pyIter_enum (s:={s1 with heap:=h'}) q1 ?_;refine⟨s1.heap.objs.size+1,[s1.heap.objs.size+1,s1.heap.objs.size],_,El X.K a,H1,rfl,I2,um a _ _ (Nat.succ_ne_self _),⟨_,q1,q2⟩,λb hb=>?_,rr⟩
 have Gs:s1.heap.objs.size<=b:=by
  rcases(by simpa using hb:b=s1.heap.objs.size+1\/b=s1.heap.objs.size) with z|z
  ·rw[z];exact Nat.le_succ _
  ·rw[z];exact Nat.le_refl _
 exact I1.aaK Gs (I1.hok.fresh Gs)
end L2
namespace Zp
open PySem PyProof.Rows
section
variable {prog:zO}{w:World}{A:Around}{E:oP}{s:Fp}
theorem j6 {it t:Addr}{i:Nat}{items:va}{x:Value}{Q:oP}(hit:s.heap.IsTupleIter it t i)(ht:s.heap.IsTuple t items)(hx:items[i]?=some x)
 (hQ:∀h',h'.IsTupleIter it t (i+1)->Heap.SameBut it s.heap h'->Q x {s with heap:=h'}):wpAny (model prog w) A (Builtin.SmallTypes.nextOf (.ref it)) Q E s:=by
 obtain⟨o,ho,hc,hd⟩:=id hit;obtain⟨ol,SE,_,nl,Nk⟩:=ht;unfold Builtin.SmallTypes.nextOf;refine wpAny_bind (wpAny_callSpecial?_slot (name:=Str.ofString "__next__") hit.typeIs F.slot_tuple_iterator_next (wpAny_call_entry F.slot_tuple_iterator_next hit.typeIs F.entry_tuple_iterator_next ?_ (F.args_tuple_iterator_next_1 _)));show wpAny _ _ (field (.ref it) 0>>=_) _ _ s;refine wpAny_bind (wpAny_field ho hd (x:=.ref t) rfl ?_);show wpAny _ _ (if(Value.ref t==Value.none)=true then _ else _) _ _ s;rw[if_neg (show ¬((Value.ref t==Value.none)=true) from Bool.false_ne_true)];show wpAny _ _ (field (.ref it) 1>>=_) _ _ s;refine wpAny_bind (wpAny_field ho hd (x:=.int i 0) rfl ?_);show wpAny _ _ (seqItems? (.ref t)>>=_) _ _ s;refine wpAny_bind (wpAny_seqItems SE Nk ?_);simp only[Int.toNat_natCast,hx];refine wpAny_bind (wpAny_setField ho hd (by simp) (wpAny_pure ⟨x,rfl,wpAny_pure (hQ _ ?_ (Heap.SameBut.update ..))⟩));exact⟨_,Heap.get?_update_self _ ho (Obj.isFreed_of_fields (Obj.data_mapFields hd _)),(Obj.cls_mapFields ..).trans hc,by rw[Obj.data_mapFields hd];simp[rawInt]⟩
theorem rN {it t:Addr}{i:Nat}{items:va}{Q:oP}(hh:A.handled=none)(hit:s.heap.IsTupleIter it t i)(ht:s.heap.IsTuple t items)(hx:items[i]?=none)
 (hE:∀h' e,Heap.ExtBut it s.heap h'->(∃o,h'.get? e=some o/\o.cls=.type "StopIteration")->E (.ref e) {s with heap:=h'}):wpAny (model prog w) A (Builtin.SmallTypes.nextOf (.ref it)) Q E s:=by
 obtain⟨o,ho,hc,hd⟩:=id hit;obtain⟨ol,SE,_,nl,Nk⟩:=ht;unfold Builtin.SmallTypes.nextOf;refine wpAny_bind (wpAny_callSpecial?_slot (name:=Str.ofString "__next__") hit.typeIs F.slot_tuple_iterator_next (wpAny_call_entry F.slot_tuple_iterator_next hit.typeIs F.entry_tuple_iterator_next ?_ (F.args_tuple_iterator_next_1 _)));show wpAny _ _ (field (.ref it) 0>>=_) _ _ s;refine wpAny_bind (wpAny_field ho hd (x:=.ref t) rfl ?_);show wpAny _ _ (if(Value.ref t==Value.none)=true then _ else _) _ _ s;rw[if_neg (show ¬((Value.ref t==Value.none)=true) from Bool.false_ne_true)];show wpAny _ _ (field (.ref it) 1>>=_) _ _ s;refine wpAny_bind (wpAny_field ho hd (x:=.int i 0) rfl ?_);show wpAny _ _ (seqItems? (.ref t)>>=_) _ _ s;refine wpAny_bind (wpAny_seqItems SE Nk ?_);simp only[Int.toNat_natCast,hx];refine wpAny_bind (wpAny_rule (wpAny_bind (wpAny_setField ho hd (by simp) ?_)));show wpAny _ _ (newExc (.type "StopIteration") []>>=_) _ _ _;refine wpAny_bind ?_;simp only[newExc,newTuple];refine wpAny_bind (wpAny_newObj_type ?_ (by size_fits));refine wpAny_bind (m:=firstArgMember _ _) (wpAny_of_eq (a:=Value.none) (by first|rfl|(simp only[firstArgMember];rfl)) ?_);refine wpAny_newObj_type ?_ (by size_fits);simp only[raiseNew];refine wpAny_bind (wpAny_handled ?_)
 first|rw[show A.in1.handled=none from hh]|rw[hh]
 refine wpAny_bind (wpAny_pure (wpAny_throw ?_));exact hE _ _ (((Heap.SameBut.update ..).extBut.push _).push _) ⟨_,Heap.get?_push_size _ rfl,rfl⟩
end
structure Apart (z TI TO i1 i2 l1 l2:Addr):Prop where
 TIz:TI≠z
 TOz:TO≠z
 i1z:i1≠z
 i2z:i2≠z
 TITO:TI≠TO
 TIi1:TI≠i1
 TIi2:TI≠i2
 TOi1:TO≠i1
 TOi2:TO≠i2
 i12:i1≠i2
 l1n:l1 ∉ [z,TO,i1,i2]
 l2n:l2 ∉ [z,TO,i1,i2]
structure Zs (h:Heap)(z TI TO i1 i2 l1 l2:Addr)(k:Nat):Prop where
 hz:IsZip h z TI TO .none
 hTI:IsPair h TI (.ref i1) (.ref i2)
 JK:∃a b,IsPair h TO a b
 h1:h.IsTupleIter i1 l1 k
 h2:h.IsTupleIter i2 l2 k
theorem cG {h h':Heap}{i l:Addr}{k:Nat}(x:h.IsTupleIter i l k)(q:∀o,h.get? i=some o->h'.get? i=some o):h'.IsTupleIter i l k:=let⟨o,a,b⟩:=x;⟨o,q o a,b⟩
section
variable {prog:zO}{w:World}{A:Around}{E:oP}{s:Fp}{z TI TO i1 i2 l1 l2:Addr}{k:Nat}{xs ys:va}{x y:Value}
theorem item {Q:oP}(D:Apart z TI TO i1 i2 l1 l2)(Z:Zs s.heap z TI TO i1 i2 l1 l2 k)(GJ:s.heap.IsTuple l1 xs)(Hh:s.heap.IsTuple l2 ys)(hx:xs[k]?=some x)(hy:ys[k]?=some y)
 (hQ:∀h',IsZip h' z TI TO (rawInt s.heap.objs.size)->(∃a b,IsPair h' TO a b)->h'.IsTupleIter i1 l1 (k+1)->h'.IsTupleIter i2 l2 (k+1)->IsPair h' s.heap.objs.size x y →
  (∀c o,c ∉ [z,TO,i1,i2]->s.heap.get? c=some o->h'.get? c=some o)->Q (.ref s.heap.objs.size) {s with heap:=h'}):
 wpAny (model prog w) A (Builtin.«zip.__next__» ⟨[.ref z],[]⟩) (λfin s'=>∃v,fin=.done (.ret v)/\Q v s') E s:=by
 obtain⟨hz,hTI,⟨a,b,JK⟩,h1,h2⟩:=Z
 have n1:l1≠z/\l1≠TO/\l1≠i1/\l1≠i2:=by simpa using D.l1n
 have n2:l2≠z/\l2≠TO/\l2≠i1/\l2≠i2:=by simpa using D.l2n
 show wpAny _ _ (field (.ref z) 2>>=_) _ _ _;refine wpAny_bind (wpAny_field hz rfl (x:=.bool false) rfl ?_);show wpAny _ _ (field (.ref z) 3>>=_) _ _ _;refine wpAny_bind (wpAny_field hz rfl (x:=.ref TI) rfl ?_);refine wpAny_bind (wpAny_seqItems hTI rfl ?_);show wpAny _ _ (Builtin.SmallTypes.ownedTupleIsFree (.ref z)>>=_) _ _ _;refine wpAny_bind ?_;unfold Builtin.SmallTypes.ownedTupleIsFree;refine wpAny_bind (wpAny_field hz rfl (x:=.none) rfl (wpAny_pure ?_));simp only[if_true];refine wpAny_bind (wpAny_rule ?_);refine wpAny_bind (wpAny_field hz rfl (x:=.ref TO) rfl ?_);refine wpAny_bind (wpAny_setField_rec hz (by simp) λg1 Kl s1=>?_)
 replace Kl:IsZip g1 z TI TO .ellipsis:=Kl
 refine wpAny_bind ?_;simp only[List.zipIdx_cons,List.zipIdx_nil,List.forIn_cons,List.forIn_nil];refine wpAny_bind (wpAny_bind (wpAny_onRaise ?_));show wpAny _ _ (Builtin.SmallTypes.nextOf (.ref i1)>>=_) _ _ _;refine wpAny_bind (j6 (h1.extBut s1.extBut D.i1z) (GJ.extBut s1.extBut n1.1) hx λg2 a2 s2=>wpAny_pure ?_);have t2:IsPair g2 TO a b:=s2.extBut _ _ D.TOi1 (s1.extBut _ _ D.TOz JK);refine wpAny_bind (wpAny_seqItems t2 rfl ?_);refine wpAny_bind (wpAny_updateSeq_pair t2 λg3 t3 s3=>?_)
 replace t3:IsPair g3 TO x b:=t3
 refine wpAny_bind (wpAny_letGo (wpAny_pure ?_));refine wpAny_bind (wpAny_bind (wpAny_onRaise ?_));show wpAny _ _ (Builtin.SmallTypes.nextOf (.ref i2)>>=_) _ _ _;refine wpAny_bind (j6 (((h2.extBut s1.extBut D.i2z).extBut s2.extBut D.i12.symm).extBut s3.extBut D.TOi2.symm) (((Hh.extBut s1.extBut n2.1).extBut s2.extBut n2.2.2.1).extBut s3.extBut n2.2.1) hy λg4 a4 s4=>wpAny_pure ?_);have t4:IsPair g4 TO x b:=s4.extBut _ _ D.TOi2 t3;refine wpAny_bind (wpAny_seqItems t4 rfl ?_);refine wpAny_bind (wpAny_updateSeq_pair t4 λg5 t5 s5=>?_)
 replace t5:IsPair g5 TO x y:=t5
 refine wpAny_bind (wpAny_letGo (wpAny_pure (wpAny_pure ?_)));refine wpAny_bind (wpAny_seqItems t5 rfl ?_);refine wpAny_bind (wpAny_newTuple ?_)
 have sz:g5.objs.size=s.heap.objs.size:=by rw[s5.1,s4.1,s3.1,s2.1,s1.1]
 have z5:IsZip g5 z TI TO .ellipsis:=s5.extBut _ _ D.TOz.symm (s4.extBut _ _ D.i2z.symm (s3.extBut _ _ D.TOz.symm (s2.extBut _ _ D.i1z.symm Kl)))
 have k5:∀c o,c ∉ [z,TO,i1,i2]->s.heap.get? c=some o->g5.get? c=some o:=λc o hc e=>by
  have Gd:c≠z/\c≠TO/\c≠i1/\c≠i2:=by simpa using hc
  exact s5.extBut _ _ Gd.2.1 (s4.extBut _ _ Gd.2.2.2 (s3.extBut _ _ Gd.2.1 (s2.extBut _ _ Gd.2.2.1 (s1.extBut _ _ Gd.1 e))))
 have a5:g5.IsTupleIter i1 l1 (k+1):=((a2.extBut s3.extBut D.TOi1.symm).extBut s4.extBut D.i12).extBut s5.extBut D.TOi1.symm;have b5:g5.IsTupleIter i2 l2 (k+1):=a4.extBut s5.extBut D.TOi2.symm;have W0:z<g5.objs.size:=Heap.lt_size z5;show wpAny _ _ (Builtin.SmallTypes.ownedTupleHandOut (.ref z) (.ref g5.objs.size)>>=_) _ _ _;refine wpAny_bind ?_;unfold Builtin.SmallTypes.ownedTupleHandOut;have z6:IsZip (g5.push {cls:=.type "tuple",data:=.seq #[x,y]}) z TI TO .ellipsis:=Heap.get?_push_of_some _ z5;refine wpAny_bind (wpAny_setField_rec z6 (by simp) λg7 z7 s7=>?_)
 replace z7:IsZip g7 z TI TO (rawInt g5.objs.size):=z7
 refine wpAny_setField_rec z7 (by simp) λg8 z8 s8=>?_
 replace z8:IsZip g8 z TI TO (rawInt g5.objs.size):=z8
 have up:∀c o,c≠z->g5.get? c=some o->g8.get? c=some o:=λc o c1 e=>s8.extBut _ _ c1 (s7.extBut _ _ c1 (Heap.get?_push_of_some _ e));have t8:IsPair g8 g5.objs.size x y:=s8.extBut _ _ (Nat.ne_of_gt W0) (s7.extBut _ _ (Nat.ne_of_gt W0) (Heap.get?_push_size _ rfl));rw[sz] at z8 t8;refine wpAny_pure ⟨_,rfl,?_⟩;show Q (.ref g5.objs.size) _;rw[sz];exact hQ g8 z8 ⟨x,y,up _ _ D.TOz t5⟩ (cG a5 λo e=>up _ o D.i1z e) (cG b5 λo e=>up _ o D.i2z e) t8 λc o hc e=>up c o (λq=>hc (by simp[q])) (k5 c o hc e)
theorem D8 {Q:Fin->Shared->Prop}(hh:A.handled=none)(D:Apart z TI TO i1 i2 l1 l2)(Z:Zs s.heap z TI TO i1 i2 l1 l2 k)(GJ:s.heap.IsTuple l1 xs)(Hh:s.heap.IsTuple l2 ys)(IH:xs[k]?=none\/ys[k]?=none)
 (hE:∀h' e,(∀c o,c ∉ [z,TO,i1,i2]->s.heap.get? c=some o->h'.get? c=some o)->(∃o,h'.get? e=some o/\o.cls=.type "StopIteration")->E (.ref e) {s with heap:=h'}):
 wpAny (model prog w) A (Builtin.«zip.__next__» ⟨[.ref z],[]⟩) Q E s:=by
 obtain⟨hz,hTI,⟨a,b,JK⟩,h1,h2⟩:=Z
 have n1:l1≠z/\l1≠TO/\l1≠i1/\l1≠i2:=by simpa using D.l1n
 have n2:l2≠z/\l2≠TO/\l2≠i1/\l2≠i2:=by simpa using D.l2n
 show wpAny _ _ (field (.ref z) 2>>=_) _ _ _;refine wpAny_bind (wpAny_field hz rfl (x:=.bool false) rfl ?_);show wpAny _ _ (field (.ref z) 3>>=_) _ _ _;refine wpAny_bind (wpAny_field hz rfl (x:=.ref TI) rfl ?_);refine wpAny_bind (wpAny_seqItems hTI rfl ?_);show wpAny _ _ (Builtin.SmallTypes.ownedTupleIsFree (.ref z)>>=_) _ _ _;refine wpAny_bind ?_;unfold Builtin.SmallTypes.ownedTupleIsFree;refine wpAny_bind (wpAny_field hz rfl (x:=.none) rfl (wpAny_pure ?_));simp only[if_true];refine wpAny_bind (wpAny_rule ?_);refine wpAny_bind (wpAny_field hz rfl (x:=.ref TO) rfl ?_);refine wpAny_bind (wpAny_setField_rec hz (by simp) λg1 Kl s1=>?_)
 replace Kl:IsZip g1 z TI TO .ellipsis:=Kl
 refine wpAny_bind ?_;simp only[List.zipIdx_cons,List.zipIdx_nil,List.forIn_cons,List.forIn_nil];refine wpAny_bind (wpAny_bind (wpAny_onRaise ?_));show wpAny _ _ (Builtin.SmallTypes.nextOf (.ref i1)>>=_) _ _ _
 cases hx:xs[k]? with
 |none =>
  refine wpAny_bind (rN hh (h1.extBut s1.extBut D.i1z) (GJ.extBut s1.extBut n1.1) hx λg2 e s2 he=>?_);obtain⟨oe,Iv,Nl⟩:=he;have z2:IsZip g2 z TI TO .ellipsis:=s2 _ _ D.i1z.symm Kl
  have ez:e≠z:=λq=>by subst q;rw[z2] at Iv;cases Iv;simp at Nl
  refine wpAny_setField_rec z2 (by simp) λg3 _ s3=>hE g3 e (λc o hc q=>?_) ⟨oe,s3.extBut _ _ ez Iv,Nl⟩
  have Gd:c≠z/\c≠TO/\c≠i1/\c≠i2:=by simpa using hc
  exact s3.extBut _ _ Gd.1 (s2 _ _ Gd.2.2.1 (s1.extBut _ _ Gd.1 q))
 |some x =>
  have hy:ys[k]?=none:=by
   rcases IH with h|h
   ·rw[hx] at h;cases h
   ·exact h
  refine wpAny_bind (j6 (h1.extBut s1.extBut D.i1z) (GJ.extBut s1.extBut n1.1) hx λg2 a2 s2=>wpAny_pure ?_);have t2:IsPair g2 TO a b:=s2.extBut _ _ D.TOi1 (s1.extBut _ _ D.TOz JK);refine wpAny_bind (wpAny_seqItems t2 rfl ?_);refine wpAny_bind (wpAny_updateSeq_pair t2 λg3 t3 s3=>?_);refine wpAny_bind (wpAny_letGo (wpAny_pure ?_));refine wpAny_bind (wpAny_bind (wpAny_onRaise ?_));show wpAny _ _ (Builtin.SmallTypes.nextOf (.ref i2)>>=_) _ _ _;refine wpAny_bind (rN hh (((h2.extBut s1.extBut D.i2z).extBut s2.extBut D.i12.symm).extBut s3.extBut D.TOi2.symm) (((Hh.extBut s1.extBut n2.1).extBut s2.extBut n2.2.2.1).extBut s3.extBut n2.2.1) hy λg4 e s4 he=>?_);obtain⟨oe,Iv,Nl⟩:=he;have z4:IsZip g4 z TI TO .ellipsis:=s4 _ _ D.i2z.symm (s3.extBut _ _ D.TOz.symm (s2.extBut _ _ D.i1z.symm Kl))
  have ez:e≠z:=λq=>by subst q;rw[z4] at Iv;cases Iv;simp at Nl
  refine wpAny_setField_rec z4 (by simp) λg5 _ s5=>hE g5 e (λc o hc q=>?_) ⟨oe,s5.extBut _ _ ez Iv,Nl⟩
  have Gd:c≠z/\c≠TO/\c≠i1/\c≠i2:=by simpa using hc
  exact s5.extBut _ _ Gd.1 (s4 _ _ Gd.2.2.2 (s3.extBut _ _ Gd.2.1 (s2.extBut _ _ Gd.2.2.1 (s1.extBut _ _ Gd.1 q))))
theorem iN {Q:Option Value->Shared->Prop}(D:Apart z TI TO i1 i2 l1 l2)(Z:Zs s.heap z TI TO i1 i2 l1 l2 k)(GJ:s.heap.IsTuple l1 xs)(Hh:s.heap.IsTuple l2 ys)(hx:xs[k]?=some x)(hy:ys[k]?=some y)
 (hQ:∀h',IsZip h' z TI TO (rawInt s.heap.objs.size)->(∃a b,IsPair h' TO a b)->h'.IsTupleIter i1 l1 (k+1)->h'.IsTupleIter i2 l2 (k+1)->IsPair h' s.heap.objs.size x y →
  (∀c o,c ∉ [z,TO,i1,i2]->s.heap.get? c=some o->h'.get? c=some o)->Q (some (.ref s.heap.objs.size)) {s with heap:=h'}):
 wpAny (model prog w) A (pyNext (.ref z)) Q E s:=by
 have hT:s.TypeIs (.ref z) "zip":=⟨_,Z.hz,rfl⟩;unfold pyNext
 exact wpAny_bind (wpAny_attempt (wpAny_callSpecial?_slot (name:=Str.ofString "__next__") hT F.slot_zip_next
  (wpAny_call_entry F.slot_zip_next hT F.entry_zip_next (item D Z GJ Hh hx hy λh' a1 a2 a3 a4 a5 a6=>wpAny_pure (hQ h' a1 a2 a3 a4 a5 a6)) (F.args_zip_next_1 _))))
theorem gs {Q:Option Value->Shared->Prop}(hh:A.handled=none)(D:Apart z TI TO i1 i2 l1 l2)(Z:Zs s.heap z TI TO i1 i2 l1 l2 k)(GJ:s.heap.IsTuple l1 xs)(Hh:s.heap.IsTuple l2 ys)(IH:xs[k]?=none\/ys[k]?=none)
 (hQ:∀h',(∀c o,c ∉ [z,TO,i1,i2]->s.heap.get? c=some o->h'.get? c=some o)->Q none {s with heap:=h'}):wpAny (model prog w) A (pyNext (.ref z)) Q E s:=by
 have hT:s.TypeIs (.ref z) "zip":=⟨_,Z.hz,rfl⟩;unfold pyNext
 refine wpAny_bind (wpAny_attempt (wpAny_callSpecial?_slot (name:=Str.ofString "__next__") hT F.slot_zip_next
  (wpAny_call_entry F.slot_zip_next hT F.entry_zip_next (D8 hh D Z GJ Hh IH λh' e hk he=>?_) (F.args_zip_next_1 _))))
 obtain⟨o,ho,hc⟩:=he;refine wpAny_bind (wpAny_isInstance (T:="StopIteration") (b:=true) ⟨o,ho,hc⟩ isSubtype_stop ?_);exact wpAny_pure (hQ _ hk)
end
noncomputable abbrev g1 (h:Heap)(l1:Addr):Heap:=h.push {cls:=.type "tuple_iterator",data:=.fields #[.ref l1,.int 0 0]}
noncomputable abbrev g2 (h:Heap)(l1 l2:Addr):Heap:=(g1 h l1).push {cls:=.type "tuple_iterator",data:=.fields #[.ref l2,.int 0 0]}
noncomputable abbrev g3 (h:Heap)(l1 l2:Addr):Heap:=(g2 h l1 l2).push {cls:=.type "tuple",data:=.seq #[.ref h.objs.size,.ref (g1 h l1).objs.size]}
noncomputable abbrev g4 (h:Heap)(l1 l2:Addr):Heap:=(g3 h l1 l2).push {cls:=.type "tuple",data:=.seq #[.none,.none]}
noncomputable abbrev g5 (h:Heap)(l1 l2:Addr):Heap:=(g4 h l1 l2).push {cls:=.type "zip",data:=.fields #[.none,.bool false,.bool false,.ref (g2 h l1 l2).objs.size,.ref (g3 h l1 l2).objs.size]}
theorem uN (l1 l2:Addr)(xs ys:va):
 Meets (Builtin.«zip.__new__» ⟨[.type "zip",.ref l1,.ref l2],[]⟩) (λ_ R s=>s.heap.IsTuple l1 xs/\s.heap.IsTuple l2 ys/\R (.ok (.ret (.ref (g4 s.heap l1 l2).objs.size))) {s with heap:=g5 s.heap l1 l2}):=
 .of_wp λprog w A R s h=>by
  obtain⟨hp,g,d,tk,os⟩:=s;obtain⟨GJ,Hh,h⟩:=h;have Zj:=sub_zip;have Zk:Heap.IsTuple (Shared.heap ⟨hp,g,d,tk,os⟩) l1 xs:=GJ;have JL:Heap.IsTuple (Shared.heap ⟨hp.push {cls:=.type "tuple_iterator",data:=.fields #[.ref l1,.int 0 0]},g,d,tk,os⟩) l2 ys:=Heap.IsTuple.push Hh _
  wp_walk using wpAny_pyIter_tuple Zk,wpAny_pyIter_tuple JL
  exact⟨_,rfl,h⟩
section
variable {prog:zO}{w:World}{A:Around}{E:oP}{s:Fp}
theorem sV {l1 l2:Addr}{xs ys:va}{Q:oP}(GJ:s.heap.IsTuple l1 xs)(Hh:s.heap.IsTuple l2 ys)
 (h:∀h',Zs h' (s.heap.objs.size+4) (s.heap.objs.size+2) (s.heap.objs.size+3) s.heap.objs.size (s.heap.objs.size+1) l1 l2 0->(∀c o,s.heap.get? c=some o->h'.get? c=some o)->Q (.ref (s.heap.objs.size+4)) {s with heap:=h'}):
 wpAny (model prog w) A (call (.type "zip") [.ref l1,.ref l2]) Q E s:=by
 refine callType_new F.called_zip (by decide) (F.typeCall_zip_2 _ _) (F.newCall_zip_2 _ _) (λobj=>F.args_object_init_3 obj _ _) F.entry_zip_new (uN l1 l2 xs ys) ⟨GJ,Hh,?_⟩;have z1:(g1 s.heap l1).objs.size=s.heap.objs.size+1:=Heap.size_push ..
 have z2:(g2 s.heap l1 l2).objs.size=s.heap.objs.size+2:=by rw[Heap.size_push,z1]
 have z3:(g3 s.heap l1 l2).objs.size=s.heap.objs.size+3:=by rw[Heap.size_push,z2]
 have z4:(g4 s.heap l1 l2).objs.size=s.heap.objs.size+4:=by rw[Heap.size_push,z3]
 have q5:(g5 s.heap l1 l2).get? (g4 s.heap l1 l2).objs.size=some _:=Heap.get?_push_size _ rfl;have q4:(g5 s.heap l1 l2).get? (g3 s.heap l1 l2).objs.size=some _:=Heap.get?_push_of_some _ (Heap.get?_push_size _ rfl);have q3:(g5 s.heap l1 l2).get? (g2 s.heap l1 l2).objs.size=some _:=Heap.get?_push_of_some _ (Heap.get?_push_of_some _ (Heap.get?_push_size _ rfl));have q2:(g5 s.heap l1 l2).get? (g1 s.heap l1).objs.size=some _:=Heap.get?_push_of_some _ (Heap.get?_push_of_some _ (Heap.get?_push_of_some _ (Heap.get?_push_size _ rfl)));have q1:(g5 s.heap l1 l2).get? s.heap.objs.size=some _:=Heap.get?_push_of_some _ (Heap.get?_push_of_some _ (Heap.get?_push_of_some _ (Heap.get?_push_of_some _ (Heap.get?_push_size _ rfl))));show _/\_;rw[z2,z3,z4] at q5;rw[z1,z2] at q3;rw[z3] at q4;rw[z1] at q2;rw[z4];exact⟨⟨_,q5,rfl⟩,h _ ⟨q5,q3,⟨_,_,q4⟩,⟨_,q1,rfl,rfl⟩,⟨_,q2,rfl,rfl⟩⟩ λc o e=>Heap.get?_push_of_some _ (Heap.get?_push_of_some _ (Heap.get?_push_of_some _ (Heap.get?_push_of_some _ (Heap.get?_push_of_some _ e))))⟩
end
theorem bf {a b:Nat}(h:a≠b):(a:Addr)≠b:=h
theorem iI (n a b:Nat)(ha:a<n)(hb:b<n):Apart (n+4) (n+2) (n+3) n (n+1) a b:=by
 refine⟨bf ?_,bf ?_,bf ?_,bf ?_,bf ?_,bf ?_,bf ?_,bf ?_,bf ?_,bf ?_,?_,?_⟩
 any_goals omega
 ·simp only[List.mem_cons,List.not_mem_nil,or_false,not_or];exact⟨bf (by omega),bf (by omega),bf (by omega),bf (by omega)⟩
 ·simp only[List.mem_cons,List.not_mem_nil,or_false,not_or];exact⟨bf (by omega),bf (by omega),bf (by omega),bf (by omega)⟩
end Zp
namespace L2
open PySem PySem.Spec PyProof.Rows PySem.W
noncomputable def De (K:Frag)(a b:Addr):It :=
 ⟨λi H=>∃xs ys x y,bx K H a xs/\bx K H b ys/\xs[i]?=some x/\ys[i]?=some y,
  λi H v H'=>∃T x y,(∀xs,bx K H a xs->xs[i]?=some x)/\(∀ys,bx K H b ys->ys[i]?=some y)/\H T=none/\v=.ref T/\H'=upd H T (.tup [x,y]),
  λi H=>∃xs ys,bx K H a xs/\bx K H b ys/\(xs.length<=i\/ys.length<=i)⟩
theorem xp {P:zO}{w:World}{K:Frag}{elts:wW}{x1:Nat}{tp:Pos}{a b z TI TO i1 i2:Addr}(D:Zp.Apart z TI TO i1 i2 a b):
 Turn P w K (.Tuple elts x1 tp) (De K a b) [z,TO,i1,i2,TI] z (λi h=>Zp.Zs h z TI TO i1 i2 a b i) where
 mem:=by simp
 obj:=λi h st c hb=>by
  obtain⟨h1,h2,⟨_,_,h3⟩,⟨o4,h4,_,d4⟩,⟨o5,h5,_,d5⟩⟩:=st
  rcases(by simpa using hb:c=z\/c=TO\/c=i1\/c=i2\/c=TI) with q|q|q|q|q
  ·subst q;exact⟨_,h1,λv q=>by cases q⟩
  ·subst q;exact⟨_,h3,λv q=>by cases q⟩
  ·subst q;exact⟨_,h4,λv q=>by rw[d4] at q;cases q⟩
  ·subst q;exact⟨_,h5,λv q=>by rw[d5] at q;cases q⟩
  ·subst q;exact⟨_,h2,λv q=>by cases q⟩
 keep:=λi h h' st k=>by
  obtain⟨h1,h2,⟨_,_,h3⟩,h4,h5⟩:=st;exact⟨k z (by simp) _ h1,k TI (by simp) _ h2,⟨_,_,k TO (by simp) _ h3⟩,Zp.cG h4 λo q=>k i1 (by simp) o q,Zp.cG h5 λo q=>k i2 (by simp) o q⟩
 item:=by
  intro X hP hw hK hc i pins s σ H E I hf st hg;subst hP hw hK;obtain⟨xs,ys,x,y,hq,hr,hx,hy⟩:=hg;obtain⟨its,rv,p,hz⟩:=I.tuple hq;obtain⟨JM,GD,p',Mz⟩:=I.tuple hr;obtain⟨u,hu,ru⟩:=rv.get hx;obtain⟨v,hv,JN⟩:=GD.get hy;refine Zp.iN D st (show s.heap.IsTuple a its.toArray from p) (show s.heap.IsTuple b JM.toArray from p') (x:=u) (y:=v) (by simpa using hu) (by simpa using hv) λh' q1 q2 q3 q4 q5 q6=>?_;refine⟨_,rfl,wpAny_letOwnedTupleGo_zip (s:={s with heap:=h'}) q1 λh2 q7 q8=>?_⟩;have lt:∀c o,s.heap.get? c=some o->c≠s.heap.objs.size:=λc o e=>Nat.ne_of_lt (Heap.lt_size e)
  have I1:Inv X pins σ H {s with heap:=h2}:=I.aaG (t':=s.toks) (ch:=[z,TO,i1,i2]) (λc o hc e=>(q8.2 c λq=>hc (by simp[q])).trans (q6 c o hc e)) λc hc=>hf c (by
   rcases(by simpa using hc:c=z\/c=TO\/c=i1\/c=i2) with q|q|q|q <;> simp[q])
  have nz:s.heap.objs.size≠z:=Ne.symm (lt z _ st.hz);have tup:h2.get? s.heap.objs.size=some {cls:=.type "tuple",data:=.seq #[u,v]}:=(q8.2 _ nz).trans q5;have fr:H s.heap.objs.size=none:=I.hok.fresh (Nat.le_refl _);have I2:=I.abI (xs:=[x,y]) (its:=[u,v]) I1 (Nat.le_refl _) tup (.cons ru (.cons JN .nil)) ic;have up:∀c o,c≠z->h'.get? c=some o->h2.get? c=some o:=λc o hc e=>(q8.2 c hc).trans e;obtain⟨aa,bb,q2⟩:=q2;have Ln:IsPair h' TI (.ref i1) (.ref i2):=q6 TI _ (by simp only[List.mem_cons,List.not_mem_nil,or_false,not_or];exact⟨D.TIz,D.TITO,D.TIi1,D.TIi2⟩) st.hTI
  refine⟨.ref s.heap.objs.size,_,I2,rfl,⟨s.heap.objs.size,x,y,λzs Lo=>by rw[I.aaF Lo hq];exact hx,λzs Lo=>by rw[I.aaF Lo hr];exact hy,fr,rfl,rfl⟩,
   ⟨q7,up _ _ D.TIz Ln,⟨aa,bb,up _ _ D.TOz q2⟩,Zp.cG q3 λo e=>up _ o D.i1z e,Zp.cG q4 λo e=>up _ o D.i2z e⟩,λc hb=>?_⟩
  have nb:c≠s.heap.objs.size:=by
   obtain⟨h1,h2,⟨_,_,h3⟩,⟨o4,h4,_,d4⟩,⟨o5,h5,_,d5⟩⟩:=st
   rcases(by simpa using hb:c=z\/c=TO\/c=i1\/c=i2\/c=TI) with q|q|q|q|q <;> subst q
   ·exact lt _ _ h1
   ·exact lt _ _ h3
   ·exact lt _ _ h4
   ·exact lt _ _ h5
   ·exact lt _ _ h2
  rw[ai nb];exact(hf c hb).1
 done:=by
  intro X hP hw hK hc i pins s σ H E I hf st hg;subst hP hw hK;obtain⟨xs,ys,hq,hr,hx⟩:=hg;obtain⟨its,rv,p,hz⟩:=I.tuple hq;obtain⟨JM,GD,p',Mz⟩:=I.tuple hr;have l1:=rv.length;have l2:=GD.length
  refine Zp.gs (I.ok.hd hc) D st (show s.heap.IsTuple a its.toArray from p) (show s.heap.IsTuple b JM.toArray from p') (by
   rcases hx with q|q
   ·left;simp;omega
   ·right;simp;omega) λh' q=>⟨rfl,?_⟩
  exact I.aaG (t':=s.toks) (ch:=[z,TO,i1,i2]) q λc hc=>hf c (by
   rcases(by simpa using hc:c=z\/c=TO\/c=i1\/c=i2) with q|q|q|q <;> simp[q])
 self:=λ_ _ _ _ _ st h=>wpAny_pyIter_zip st.hz h
noncomputable def EF (K:Frag)(ta tb:TE):TI:=λσ H R=>aQ ta (aQ tb tW) σ H λvs H1=>∃a b xs ys,vs=[.ref a,.ref b]/\bx K H1 a xs/\bx K H1 b ys/\R (De K a b) H1
theorem zH {X:Cx}{ea eb:Expr}{ta tb:TE}{elts:wW}{x1:Nat}{tp p pos:Pos}(ha:PE X ea ta)(hb:PE X eb tb)(hg:Gl X "zip")(hm:X.mg "zip"=none)(hs:dN ea=false:=by rfl)(HX:dN eb=false:=by rfl):
 PI X (.Tuple elts x1 tp) (.Call (.Name "zip" p) [ea,eb] [] pos) (EF X.K ta tb):=by
 intro pins s σ H R I h;refine wpAny_Call_Name_kw (dO I hg hm (by rfl) ?_ (by decide) (by decide));refine PyProof.Rows.callWith_type1 (bA (aj ha (aj hb ag HX) hs pos pins s σ H _ I h) λus s1 z'=>?_) (aV hs) (by rw[aV HX];rfl);obtain⟨vs,H1,I1,r1,a,b,xs,ys,hv,hq,hr,rr⟩:=z';subst hv;obtain⟨u,u',rfl,ru,JN⟩:=oq r1
 cases(show u=Value.ref a from ru)
 cases(show u'=Value.ref b from JN)
 obtain⟨its,rv,pl,hz⟩:=I1.tuple hq;obtain⟨JM,GD,Km,Mz⟩:=I1.tuple hr;refine Zp.sV (show s1.heap.IsTuple a its.toArray from pl) (show s1.heap.IsTuple b JM.toArray from Km) λh' q1 q4=>?_;have I2:Inv X pins σ H1 {s1 with heap:=h'}:=I1.kept (t':=s1.toks) q4
 have la:a<s1.heap.objs.size:=by obtain⟨o,e,_⟩:=pl;exact Heap.lt_size e
 have lb:b<s1.heap.objs.size:=by obtain⟨o,e,_⟩:=Km;exact Heap.lt_size e
 refine wpAny_pyIter_zip (s:={s1 with heap:=h'}) q1.hz ?_;refine⟨s1.heap.objs.size+4,[s1.heap.objs.size+4,s1.heap.objs.size+3,s1.heap.objs.size,s1.heap.objs.size+1,s1.heap.objs.size+2],_,De X.K a b,H1,rfl,I2,xp (Zp.iI _ _ _ la lb),q1,λc hc=>?_,rr⟩
 have Gs:s1.heap.objs.size<=c:=by
  rcases(by simpa using hc:c=s1.heap.objs.size+4\/c=s1.heap.objs.size+3\/c=s1.heap.objs.size\/c=s1.heap.objs.size+1\/c=s1.heap.objs.size+2) with q|q|q|q|q <;> rw[q]
  ·exact Nat.le_add_right _ _
  ·exact Nat.le_add_right _ _
  ·exact Nat.le_refl _
  ·exact Nat.le_add_right _ _
  ·exact Nat.le_add_right _ _
 exact I1.aaK Gs (I1.hok.fresh Gs)
end L2
namespace K26
open PySem L2 PySem.W
noncomputable abbrev E7:Stmt:=bq (aJ 30) 1
noncomputable abbrev qT:Stmt:=bq (aJ 30) 3
noncomputable abbrev vD:Stmt:=(aJ 14)
noncomputable abbrev iz:Stmt:=(aJ 15)
noncomputable def C9 (C:Addr):Sp:=λvs H Q _=>∃(p dx:Addr)(i:Int)(y:V),vs=[.ref p,y]/\H p=some (.ins C dx (dR i)) /\
 ((∃q dy j,y=.ref q/\H q=some (.ins C dy (dR j))/\Q (.bl (decide (i=j))) H)\/∃T,Th H y T/\Q (.bl false) H)
noncomputable def rG (C:Addr):Sp:=λvs H Q _=>∃(p dx:Addr)(i:Int),vs=[.ref p]/\H p=some (.ins C dx (dR i))/\Q (.int i) H
noncomputable def cJ:V->Bool
 | .int i=>decide (0<=i)&&decide (i<60)
 |_=>false
noncomputable def yv:Sp:=λvs H Q _=>∃x T,vs=[x]/\Th H x T/\Q (.bl (cJ x)) H
variable {P:zO}{w:World}{K:PySem.W.Frag}{mg:yN}{base:Heap}
theorem Dv:yd pJ pJ (ak E7):=c9 (by decide +kernel)
variable {f:Addr}{fd:vH}
theorem BA {C:Addr}(F:xR K "__eq__" "Field.__eq__" E7 f fd)(c:oO K mg C)(n:uf mg):Ef P w K mg base (aO P w) 1 f fd pJ (C9 C):=by
 refine F.okN Dv (λvs H Q E h=>?_) (λFV A outer s H vs Q E hr h=>?_)
 ·obtain⟨p,dx,i,y,rfl,_⟩:=h;rfl
 ·obtain⟨p,dx,i,y,rfl,hp,h⟩:=h
  refine⟨_,au (ay (dB (aB aN (by rfl) n.isi (by rfl) (aS (pv 1) (aS (cz (by rfl) c.mgC (show aD (.ref C) (.ref C) from rfl)) ag)))
   (eF (dC du (dF (pv 0) rfl) (dF (pv 1) rfl) (aK _))))),?_⟩
  rcases h with⟨q,dy,j,rfl,hq,z⟩|⟨T,th,z⟩
  ·refine⟨_,rfl,.ref q,.ref C,_,_,_,rfl,rfl,c.ty hq,c.is,_,rfl,?_⟩;refine aW ?_;refine⟨_,rfl,p,C,dx,_,_,rfl,hp,c.cl,c.nP,rfl,_,rfl,q,C,dy,_,_,rfl,hq,c.cl,c.nP,rfl,rfl,?_⟩
   have e:decide (V.int i=V.int j)=decide (i=j):=by simp
   rw[e];exact z
  ·exact⟨_,rfl,y,.ref C,_,_,_,rfl,rfl,th.ty,c.no th,_,rfl,bD z⟩
theorem vU:yd ["self"] ["self"] (ak qT):=c9 (by decide +kernel)
theorem wu {C:Addr}(F:xR K "prime" "Field.prime" qT f fd)(c:oO K mg C):Ef P w K mg base (aO P w) 1 f fd ["self"] (rG C):=by
 refine F.okN vU (λvs H Q E h=>?_) (λFV A outer s H vs Q E hr h=>?_)
 ·obtain⟨p,dx,i,rfl,_⟩:=h;rfl
 ·obtain⟨p,dx,i,rfl,hp,q⟩:=h;exact⟨_,au (ay (dF (pv 0) rfl)),_,rfl,p,C,dx,_,_,rfl,hp,c.cl,c.nP,rfl,q⟩
theorem yM:yd uI uI (ak vD):=c9 (by decide +kernel)
theorem vn {fw:Addr}{G4:vH}{tM:Tok}(F:xR K "is_place" "is_place" vD f fd)(Zl:mg "MOST_PLACES"=some (.int 60 tM))
 (FW:Ef P w K mg base (aO P w) 1 fw G4 uI t6)(bW:L2.az K G4 uI [])(mW:mg "is_whole"=some (.ref fw))(kW:keepIn K (.ref fw)=true):Ef P w K mg base (aO P w) 2 f fd uI yv:=by
 refine F.okN yM (λvs H Q E h=>?_) (λFV A outer s H vs Q E hr h=>?_)
 ·obtain⟨x,T,rfl,_⟩:=h;rfl
 ·obtain⟨x,T,rfl,th,q⟩:=h;have Gb:Fq 1 _:=hr.mono (by decide);refine⟨_,au (ay (dB (av FW Gb (by rfl) mW kW bW .nil af (@aj _ _ _ _ _ (pv 0) ag rfl)) (eF (jU fK jE ah (pv 0) (cz (by rfl) Zl (show aD (.int 60) (.int 60 tM) from⟨_,rfl⟩)))))),?_⟩;refine⟨_,rfl,x,T,rfl,th,_,rfl,?_⟩
  cases e:dH x with
  |false =>
   have z:cJ x=false:=by cases x <;> first|rfl|cases e
   rw[z] at q;exact bD q
  |true =>
   have z1:∃i,x=.int i:=by cases x <;> first|exact⟨_,rfl⟩|cases e
   obtain⟨i,rfl⟩:=z1;refine aW ?_;refine⟨_,rfl,_,_,rfl,rfl,_,rfl,?_⟩;refine cp (λh=>?_) (λh=>?_)
   ·refine⟨_,_,rfl,rfl,?_⟩;have h':decide (0<=i)=true:=h
    have z:cJ (.int i)=decide (i<60):=by show(decide (0<=i)&&decide (i<60))=_;rw[h',Bool.true_and]
    rw[z] at q;exact q
   ·have h':decide (0<=i)=false:=by simpa using h
    have z:cJ (.int i)=false:=by show(decide (0<=i)&&decide (i<60))=_;rw[h',Bool.false_and]
    rw[z] at q;exact q
end K26
namespace HT
open PySem PyProof.Rows
section
variable {prog:zO}{w:World}{A:Around}{E:oP}{s:Fp}
theorem gE {t sl:Addr}{items:va}{vl vu:Value}{lo hi:Option Int}{Q:oP}(ht:IsTup s.heap t items)(hs:s.heap.IsSliceOf sl vl vu .none)(pl:IsPart vl lo)(pu:IsPart vu hi)
 (h0:d9 items.size 0 lo=0)(h1:d9 items.size items.size hi=items.size)(h:Q (.ref t) s):wpAny (model prog w) A (getItem (.ref t) (.ref sl)) Q E s:=by
 obtain⟨os,K8,Ms,MU⟩:=id hs;have R8:s.TypeIs (.ref sl) "slice":=⟨os,K8,Ms⟩;unfold getItem
 try with_reducible refine wpAny_holding ?_
 first|refine wpAny_bind (wpAny_pure ?_)|skip
 refine wpAny_bind (wpAny_sequenceKey ht.typeIs (by decide) ?_)
 refine wpAny_bind (wpAny_callSpecial?_slot (name:=Str.ofString "__getitem__") ht.typeIs PyProof.Rows.slot_tuple_getitem
  (wpAny_call_entry PyProof.Rows.slot_tuple_getitem ht.typeIs entry_tuple_getitem ?_ (args_tuple_getitem _ _)))
 show wpAny _ _ (Builtin.Tuple.tupleItemsOf (.ref t)>>=_) _ _ s;refine wpAny_bind (tupleItemsOf_ ht ?_);refine wpAny_bind (wpAny_typeOf R8 ?_);rw[if_pos (by decide)];refine wpAny_bind (eQ hs pl pu ?_);rw[h0,h1]
 have HP:((((0:Nat):Int)==0&&(1:Int)==1&&(items.size-0)==items.size)=true):=by simp
 dsimp only;rw[if_pos HP];show wpAny _ _ (Builtin.Tuple.tupleIsExact (.ref t)>>=_) _ _ s;refine wpAny_bind ?_;unfold Builtin.Tuple.tupleIsExact;refine wpAny_bind (wpAny_typeOf ht.typeIs (wpAny_pure ?_));rw[if_pos (by decide)];refine wpAny_bind (wpAny_rule ?_);exact wpAny_pure ⟨_,rfl,wpAny_pure h⟩
end
end HT
namespace L2
open PySem PySem.Spec PyProof.Rows PySem.W
variable {X:Cx}
noncomputable def DF (K:Frag):V->Option Int->Option Int->Hp->VK->Prop:=λx lo hi H Q=>∃a xs,x=.ref a/\bx K H a xs/\(nA xs lo hi=xs->Q (.ref a) H)/\∀p,H p=none->Q (.ref p) (upd H p (.tup (nA xs lo hi)))
theorem yD:Ex X (DF X.K):=by
 intro pins s σ H x v vl vu lo hi sl Q I rx hs pl pu h;obtain⟨a,xs,rfl,hx,h1,h2⟩:=h
 by_cases hw:HT.d9 xs.length 0 lo=0/\HT.d9 xs.length xs.length hi=xs.length
 ·cases rx
  obtain⟨its,r,ht,hz⟩:=I.tuple hx
  have hlen:its.toArray.size=xs.length:=by rw[List.size_toArray];exact r.length.symm
  refine⟨"tuple",_,PyProof.Rows.slot_tuple_getitem.lookup,ht.typeIs,?_⟩;refine HT.gE ht hs pl pu (by rw[hlen];exact hw.1) (by rw[hlen];exact hw.2) ?_;refine⟨.ref a,H,I,rfl,h1 ?_⟩;unfold nA;rw[hw.1,hw.2];simp
 ·exact aco pins s σ H (.ref a) v vl vu lo hi sl Q I rx hs pl pu ⟨a,xs,rfl,hx,hw,h2⟩
end L2
namespace K26
open PySem L2 PySem.W
inductive PX (H:Hp):V->Option (List V)->Prop where
 |no {x:V}{T:String}:Th H x T->T ≠ "tuple"->PX H x none
 |tup {a:Addr}{xs:List V}:H a=some (.tup xs)->xs.length<4000->(∀y∈xs,∃T,Th H y T)->PX H (.ref a) (some xs)
noncomputable def Cc:V->V->Bool
 | .int a,.int b=>decide (a<b)
 |_,_=>false
noncomputable def jj (xs:List V):Bool:=(xs.zip (xs.drop 1)).all λp=>Cc p.1 p.2
noncomputable def j8:Option (List V)->Bool
 |none=>false
 |some xs=>xs.all cJ&&jj xs
noncomputable def Fy:Sp:=λvs H Q _=>∃x o,vs=[x]/\PX H x o/\∀H',ax H H'->Q (.bl (j8 o)) H'
theorem CB (xs:List V):nA xs (some 1) none=xs.drop 1:=by
 unfold nA HT.d9
 cases xs with
 |nil=>rfl
 |cons x xs=>simp
theorem tY:yd uI uI (ak iz):=c9 (by decide +kernel)
theorem nk:∀bs:List Bool,Paired Ds (bs.map V.bl) bs
 |[]=>.nil
 |b::bs=>.cons rfl (nk bs)
variable {P:zO}{w:World}{K:PySem.W.Frag}{mg:yN}{base:Heap}
variable {f:Addr}{fd:vH}
theorem qH {fp:Addr}{IJ:vH}(F:xR K "is_product" "is_product" iz f fd)(FR:mg "isinstance"=none)(FX:mg "tuple"=none)(Gu:mg "all"=none)(GF:mg "zip"=none)
 (FP:Ef P w K mg base (aO P w) 2 fp IJ uI yv)(bP:L2.az K IJ uI [])(mP:mg "is_place"=some (.ref fp))(kP:keepIn K (.ref fp)=true):Ef P w K mg base (aO P w) 3 f fd uI Fy:=by
 refine F.okN tY (λvs H Q E h=>?_) (λFV A outer s H vs Q E hr h=>?_)
 ·obtain⟨x,o,rfl,_⟩:=h;rfl
 ·obtain⟨x,o,rfl,px,q⟩:=h;have Gz:Fq 2 _:=hr.mono (by decide)
  refine⟨_,(ao (bc (PW.pt (eX (bR (b8 (aB aN (by rfl) FR (by rfl) (@aj _ _ _ _ _ (pv 0) (@aj _ _ _ _ _ (cH (by rfl) FX (by rfl) (show aD (.ty "tuple") (.type "tuple") from rfl)) ag rfl) rfl)))) (dA (bR (b8 (aB (gh rfl) (by rfl) Gu (by rfl) (@aj _ _ _ _ _ (cI (N:=["place"]) (nl:=1) (js:=[]) (osc:=ak iz) ⟨rfl,rfl,by decide +kernel,by decide +kernel,by decide +kernel,rfl,.nil,by decide +kernel⟩ rfl
   (qg (pv 0))
   (λC fp s H=>aA (i:=0) (by show(["place"]:nO).Nodup;decide +kernel) rfl (Or.inl rfl) (Or.inr rfl))
   (λC fp s H=>ck)
   (λC fp s H=>(av FP Gz (by rfl) mP kP bP .nil af (@aj _ _ _ _ _ (pv 0) ag rfl)))) ag rfl))))))) (au (ay dG)) aF)
   (au (ay (aB (gh rfl) (by rfl) Gu (by rfl) (@aj _ _ _ _ _ (cI (g:=gD K 2 (bX (aZ 0) (bX (aZ 1) DH))) (N:=["place","later"]) (nl:=2) (js:=[]) (osc:=ak iz) ⟨rfl,rfl,by decide +kernel,by decide +kernel,by decide +kernel,rfl,.nil,by decide +kernel⟩ rfl
    (zH (pv 0) (abL yD (pv 0) (abp ah) abc) (by rfl) GF)
    (λC fp s H=>(cf (X:=bQ _ ["place","later"] _ C fp s H) rfl (aC (aA (X:=bQ _ ["place","later"] _ C fp s H) (i:=0) (by show(["place","later"]:nO).Nodup;decide +kernel) rfl (Or.inl rfl) (Or.inr rfl)) (aC (aA (X:=bQ _ ["place","later"] _ C fp s H) (i:=1) (by show(["place","later"]:nO).Nodup;decide +kernel) rfl (Or.inl rfl) (Or.inr rfl)) bH))))
    (λC fp s H=>ck)
    (λC fp s H=>(@dC _ _ _ _ _ _ _ _ jE (pv 0) (pv 1) (aK _)))) ag rfl))))),?_⟩
  cases px with
  |@no x T th ne =>
   refine⟨_,rfl,x,.ty "tuple",_,_,_,rfl,rfl,th.ty,th.isTup,_,rfl,?_⟩;rw[decide_eq_false ne];exact aW (aW (q _ (ax.refl _)))
  |@tup a xs ha hl SF =>
   refine⟨_,rfl,.ref a,.ty "tuple",_,_,_,rfl,rfl,.of (.tup ha),rfl,_,rfl,bD ?_⟩;have W2:∀n,n<=xs.length->n<sizeLine:=λn hn=>Nat.lt_of_le_of_lt hn (Nat.lt_trans hl (by decide));refine⟨_,rfl,a,rfl,⟨xs,bx.of ha⟩,?_⟩;refine⟨λi m ys σ' H'=>m=xs.length-i/\i<=xs.length/\ys=((xs.take i).map cJ).map V.bl/\H=H'/\∃o,σ'=[o],⟨xs.length,by simp,Nat.zero_le _,by simp,rfl,none,rfl⟩,?_⟩;rintro i m ys σ' H' ⟨rfl,hi,rfl,rfl,o,rfl⟩;refine⟨W2 _ (by simp;omega),?_⟩
   by_cases FY:i<xs.length
   ·refine .inr ⟨⟨xs,xs[i],bx.of ha,by simp[FY]⟩,λy H2 hy=>?_⟩;obtain⟨rfl,hy⟩:=hy;have ey:=hy xs (bx.of ha);obtain⟨T,th⟩:=SF y (List.mem_of_getElem? ey);dsimp only[BX,aZ];refine aW ⟨_,rfl,y,T,rfl,th,xs.length-(i+1),by omega,rfl,FY,?_,rfl,_,rfl⟩
    have e2:xs.take (i+1)=xs.take i++[y]:=by
     rw[List.take_add_one,ey];rfl
    rw[e2];simp
   ·have ei:i=xs.length:=by omega
    subst ei;refine .inl ⟨⟨xs,bx.of ha,Nat.le_refl _⟩,λD hD=>?_⟩;rw[List.take_length];refine⟨D,_,xs.map cJ,rfl,ba.of ae,nk _,_,rfl,?_⟩;have sD:ax H (upd H D (.lst ((xs.map cJ).map V.bl))):=aq hD
    cases hp:(xs.map cJ).all id with
    |false =>
     have z:j8 (some xs)=false:=by
      show(xs.all cJ&&jj xs)=_
      have:xs.all cJ=false:=by rw[<-hp,List.all_map];rfl
      rw[this,Bool.false_and]
     rw[z] at q;exact aW (q _ sD)
    |true =>
     refine bD ?_
     have z:j8 (some xs)=jj xs:=by
      show(xs.all cJ&&jj xs)=_
      have:xs.all cJ=true:=by rw[<-hp,List.all_map];rfl
      rw[this,Bool.true_and]
     rw[z] at q;generalize upd H D (.lst ((xs.map cJ).map V.bl))=H1 at sD |-;have Jm:=sD _ _ ha
     have hint:∀y∈xs,∃n,y=V.int n:=λy hy=>by
      have:cJ y=true:=List.all_eq_true.mp hp _ (List.mem_map_of_mem hy)
      cases y <;> first|exact⟨_,rfl⟩|cases this
     have key:∀(b:Addr)(H2:Hp),ax H H2->H2 a=some (.tup xs)->H2 b=some (.tup (xs.drop 1)) →
      ∃W:Nat->Nat->List V->St->Hp->Prop,(∃m,W 0 m [] [none,none] H2)/\lO (De K a b) (gD K 2 (bX (aZ 0) (bX (aZ 1) DH))) BX (jB (pD λi j=>V.bl (decide (i<j))) (cC 0) (cC 1)) W
       λys H'=>∀D,H' D=none->∃l zs bs,[V.ref D]=[V.ref l]/\ba K (upd H' D (.lst ys)) l zs/\Paired Ds zs bs/\Q (.bl (bs.all id)) (upd H' D (.lst ys)):=by
      intro b H2 s2 Zm Zn;refine⟨λi m ys σ' H'=>m=(xs.drop 1).length-i/\i<=(xs.drop 1).length/\ys=(((xs.zip (xs.drop 1)).take i).map λp=>Cc p.1 p.2).map V.bl/\ax H2 H'/\∃o1 o2,σ'=[o1,o2],⟨(xs.drop 1).length,by simp,Nat.zero_le _,by simp,ax.refl _,none,none,rfl⟩,?_⟩;rintro i m ys σ' H' ⟨rfl,hi,rfl,sH,o1,o2,rfl⟩;have Lp:=sH _ _ Zm;have Gs:=sH _ _ Zn;refine⟨W2 _ (by simp;omega),?_⟩
      by_cases FY:i<(xs.drop 1).length
      ·have SG:i<xs.length:=by rw[List.length_drop] at FY;omega
       refine .inr ⟨⟨xs,xs.drop 1,xs[i],(xs.drop 1)[i],bx.of Lp,bx.of Gs,by simp[SG],by rw[List.getElem?_eq_getElem FY]⟩,λv H3 hv=>?_⟩;obtain⟨T,x,y,hx,hy,hT,rfl,rfl⟩:=hv;have ex:=hx xs (bx.of Lp);have ey:=hy (xs.drop 1) (bx.of Gs);obtain⟨n,rfl⟩:=hint x (List.mem_of_getElem? ex);obtain⟨k,rfl⟩:=hint y (List.mem_of_mem_drop (List.mem_of_getElem? ey));refine⟨T,_,rfl,bx.of ae,rfl,_,_,rfl,_,_,rfl,rfl,?_⟩;dsimp only[BX];refine aW ⟨_,rfl,_,rfl,n,k,rfl,rfl,(xs.drop 1).length-(i+1),by omega,rfl,FY,?_,λc u e=>?_,_,_,rfl⟩
       ·have ez:(xs.zip (xs.drop 1))[i]?=some (V.int n,V.int k):=by
         rw[List.getElem?_zip_eq_some];exact⟨ex,ey⟩
        have e2:(xs.zip (xs.drop 1)).take (i+1)=(xs.zip (xs.drop 1)).take i++[(V.int n,V.int k)]:=by
         rw[List.take_add_one,ez];rfl
        rw[e2];simp[Cc]
       ·rw[ai (ar (sH _ _ e) hT)];exact sH _ _ e
      ·have ei:i=(xs.drop 1).length:=by omega
       subst ei;refine .inl ⟨⟨xs,xs.drop 1,bx.of Lp,bx.of Gs,.inr (Nat.le_refl _)⟩,λD' Lq=>?_⟩
       have et:(xs.zip (xs.drop 1)).take (xs.drop 1).length=xs.zip (xs.drop 1):=by
        apply List.take_of_length_le;rw[List.length_zip];exact Nat.min_le_right _ _
       rw[et];refine⟨D',_,(xs.zip (xs.drop 1)).map λp=>Cc p.1 p.2,rfl,ba.of ae,nk _,?_⟩
       have er:((xs.zip (xs.drop 1)).map λp=>Cc p.1 p.2).all id=jj xs:=by rw[List.all_map];rfl
       rw[er];refine q _ λc u e=>?_;have e1:=sH _ _ (s2 _ _ e);rw[ai (ar e1 Lq)];exact e1
     refine⟨_,rfl,_,rfl,1,rfl,a,xs,rfl,bx.of Jm,λe=>?_,λp W3=>?_⟩
     ·rw[CB] at e;exact⟨a,a,xs,xs.drop 1,rfl,bx.of Jm,bx.of (by rw[e];exact Jm),key a H1 sD Jm (by rw[e];exact Jm)⟩
     ·rw[CB];have np:a≠p:=ar Jm W3;exact⟨a,p,xs,xs.drop 1,rfl,bx.of (by rw[ai np];exact Jm),bx.of ae,key p _ (λc u e=>by rw[ai (ar (sD _ _ e) W3)];exact sD _ _ e) (by rw[ai np];exact Jm) ae⟩
noncomputable abbrev zk:Stmt:=(aJ 47)
theorem PX.same {H H':Hp}{x:V}{o:Option (List V)}(h:PX H x o)(s:ax H H'):PX H' x o:=by
 cases h with
 |no th n=>exact .no (th.same s) n
 |tup e l h=>exact .tup (s _ _ e) l λy hy=>let⟨T,t⟩:=h y hy;⟨T,t.same s⟩
inductive Ea (p:Int)(H:Hp):V->Bool->Prop where
 |no {x:V}{T:String}:Th H x T->T ≠ "tuple"->Ea p H x false
 |odd {a:Addr}{xs:List V}:H a=some (.tup xs)->xs.length≠2->Ea p H (.ref a) false
 |two {a:Addr}{y z:V}{o:Option (List V)}{o2:Option (V×V)}:H a=some (.tup [y,z])->PX H y o->TX H z o2->Ea p H (.ref a) (j8 o&&xG p o2)
theorem Ea.same {p:Int}{H H':Hp}{x:V}{b:Bool}(h:Ea p H x b)(s:ax H H'):Ea p H' x b:=by
 cases h with
 |no th n=>exact .no (th.same s) n
 |odd e n=>exact .odd (s _ _ e) n
 |two e h1 h2=>exact .two (s _ _ e) (h1.same s) (h2.same s)
noncomputable def uY (C:Addr):Sp:=λvs H Q _=>∃(s dx:Addr)(p:Int)(x:V)(b:Bool),vs=[.ref s,x]/\H s=some (.ins C dx (dR p))/\FP p/\Ea p H x b/\∀H',ax H H'->Q (.bl b) H'
theorem zX:yd pP pP (ak zk):=c9 (by decide +kernel)
theorem y7 {fp fi C:Addr}{IJ W4:vH}(F:xR K "is_term" "is_term" zk f fd)(c:oO K mg C)(FR:mg "isinstance"=none)(FX:mg "tuple"=none)(m_len:mg "len"=none)
 (Zo:Ef P w K mg base (aO P w) 3 fp IJ uI Fy)(bP:L2.az K IJ uI [])(mP:mg "is_product"=some (.ref fp))(kP:keepIn K (.ref fp)=true)
 (FI:Ef P w K mg base (aO P w) 2 fi W4 yL (jJ C))(bI:L2.az K W4 yL [])(mI:L2.Meth K C "is_number" fi):Ef P w K mg base (aO P w) 4 f fd pP (uY C):=by
 refine F.okN zX (λvs H Q E h=>?_) (λFV A outer s H vs Q E hr h=>?_)
 ·obtain⟨s,dx,p,x,b,rfl,_⟩:=h;rfl
 ·obtain⟨s0,dx,p,x,b,rfl,hs,hp,tx,q⟩:=h;have G5:Fq 3 _:=hr.mono (by decide);have Gz:Fq 2 _:=hr.mono (by decide)
  refine⟨_,au (ay (dB (aB aN (by rfl) FR (by rfl) (@aj _ _ _ _ _ (pv 1) (@aj _ _ _ _ _ (cH (by rfl) FX (by rfl) (show aD (.ty "tuple") (.type "tuple") from rfl)) ag rfl) rfl))
   (dB (@dC _ _ _ _ _ _ _ _ du (aB bJ (by rfl) m_len PySem.boot_len (@aj _ _ _ _ _ (pv 1) ag rfl)) ah (aK _))
   (dB (av Zo G5 (by rfl) mP kP bP .nil af (@aj _ _ _ _ _ (@bo _ _ _ _ _ _ _ bK (pv 1) ah (λ_ _=>rfl)) ag rfl))
   (eF (m6 (pv 0) c.cl mI FI Gz bI .nil af (@aj _ _ _ _ _ (@bo _ _ _ _ _ _ _ bK (pv 1) ah (λ_ _=>rfl)) ag rfl))))))),?_⟩
  cases tx with
  |@no x T th ne =>
   refine⟨_,rfl,x,.ty "tuple",_,_,_,rfl,rfl,th.ty,th.isTup,_,rfl,?_⟩;rw[decide_eq_false ne];exact bD (q _ (ax.refl _))
  |@odd a xs ha hl =>
   refine⟨_,rfl,.ref a,.ty "tuple",_,_,_,rfl,rfl,.of (.tup ha),rfl,_,rfl,aW ?_⟩;refine⟨_,rfl,a,_,rfl,.inr (bx.of ha),rfl,_,rfl,?_⟩;refine cp (λh=>absurd h (by simp;omega)) (λh=>?_);exact q _ (ax.refl _)
  |@two a y z o o2 ha hy hz =>
   refine⟨_,rfl,.ref a,.ty "tuple",_,_,_,rfl,rfl,.of (.tup ha),rfl,_,rfl,aW ?_⟩;refine⟨_,rfl,a,_,rfl,.inr (bx.of ha),rfl,_,rfl,aW ?_⟩;refine⟨_,rfl,a,_,0,y,rfl,rfl,bx.of ha,rfl,y,o,rfl,hy,λH' sH=>⟨_,rfl,?_⟩⟩;have HX:=sH _ _ hs;have Lp:=sH _ _ ha
   cases e:j8 o with
   |false =>
    rw[e,Bool.false_and] at q;exact bD (q _ sH)
   |true =>
    rw[e,Bool.true_and] at q;refine aW ⟨_,rfl,s0,dx,_,rfl,HX,rfl,_,rfl,a,_,1,z,rfl,rfl,bx.of Lp,rfl,s0,dx,p,z,o2,rfl,HX,hp,hz.same sH,q _ sH⟩
noncomputable abbrev ow:Stmt:=(aJ 48)
noncomputable abbrev oV:Stmt:=(aJ 49)
noncomputable def l9 (C:Addr):Sp:=λvs H Q _=>∃(s dx:Addr)(p:Int)(x:V),vs=[.ref s,x]/\H s=some (.ins C dx (dR p))/\FP p /\
 ((x=.non/\∀l,H l=none->Q (.ref l) (upd H l (.lst [])))\/∃l ys,x=.ref l/\H l=some (.lst ys)/\ys.length<4000/\(∀y∈ys,Ea p H y true)/\∀H',ax H H'->Q (.ref l) H')
noncomputable def lJ:Sp:=λvs H Q _=>∃(a b:Addr)(z:V)(xs:List V),vs=[.ref a]/\H a=some (.tup [.ref b,z])/\H b=some (.tup xs)/\∀t,H t=none->Q (.ref t) (upd H t (.tup [.int xs.length,.ref b]))
theorem iS:yd ["field","terms","number","thing"] qo (ak ow):=c9 (by decide +kernel)
theorem ua:yd ["term"] ["term"] (ak oV):=c9 (by decide +kernel)
theorem ql (F:xR K "place_of_term" "place_of_term" oV f fd)(m_len:mg "len"=none):Ef P w K mg base (aO P w) 1 f fd ["term"] lJ:=by
 refine F.okN ua (λvs H Q E h=>?_) (λFV A outer s H vs Q E hr h=>?_)
 ·obtain⟨a,b,z,xs,rfl,_⟩:=h;rfl
 ·obtain⟨a,b,z,xs,rfl,ha,hb,q⟩:=h;refine⟨_,(au (ay (@bO _ _ _ _ _ (@aj _ _ _ _ _ (aB bJ (by rfl) m_len PySem.boot_len (@aj _ _ _ _ _ (@bo _ _ _ _ _ _ _ bK (pv 0) ah (λ_ _=>rfl)) ag rfl)) (@aj _ _ _ _ _ (@bo _ _ _ _ _ _ _ bK (pv 0) ah (λ_ _=>rfl)) ag rfl) rfl)))),?_⟩;refine⟨_,rfl,a,_,0,_,rfl,rfl,bx.of ha,rfl,b,xs,rfl,.inr (bx.of hb),_,rfl,a,_,0,_,rfl,rfl,bx.of ha,rfl,ic,λt ht=>q t ht⟩
theorem qC {ft C:Addr}{Ho:vH}(F:xR K "checked_terms" "checked_terms" ow f fd)(FR:mg "isinstance"=none)(F7:mg "list"=none)(Ga:mg "enumerate"=none)
 (FT:Ef P w K mg base (aO P w) 4 ft Ho pP (uY C))(bT:L2.az K Ho pP [])(mT:mg "is_term"=some (.ref ft))(kT:keepIn K (.ref ft)=true):Ef P w K mg base (aO P w) 5 f fd qo (l9 C):=by
 refine F.okN iS (λvs H Q E h=>?_) (λFV A outer s H vs Q E hr h=>?_)
 ·obtain⟨s,dx,p,x,rfl,_⟩:=h;rfl
 ·obtain⟨s0,dx,p,x,rfl,hs,hp,h⟩:=h;have Ii:Fq 4 _:=hr.mono (by decide)
  refine⟨_,(ao (bc (@aI _ _ _ _ _ _ _ _ vE (pv 1) fV (aK _)) (au (ay (@cy _ _ _ _ ag))) aF)
   (ao (bc (bR (b8 (aB aN (by rfl) FR (by rfl) (@aj _ _ _ _ _ (pv 1) (@aj _ _ _ _ _ (cH (by rfl) F7 (by rfl) (show aD (.ty "list") (.type "list") from rfl)) ag rfl) rfl)))) (au (oW)) aF)
   (ao (dJ PassesOwn.never rfl (rp (pv 1) (by rfl) Ga) (cf rfl (aC (aA (i:=2) iS.nd rfl (Or.inl rfl)) (aC (aA (i:=3) iS.nd rfl (Or.inl rfl)) bH)))
   (au (bc (bR (b8 (av FT Ii (by rfl) mT kT bT .nil af (@aj _ _ _ _ _ (pv 0) (@aj _ _ _ _ _ (pv 3) ag rfl) rfl)))) (au (oW)) aF)))
   (au (ay (pv 1)))))),?_⟩
  rcases h with⟨rfl,q⟩|⟨l,ys,rfl,hl,hlen,Rw,q⟩
  ·refine⟨_,rfl,rfl,_,rfl,?_⟩;exact aW ⟨Nat.zero_le _,λl hl=>q l hl⟩
  ·refine⟨_,rfl,rfl,_,rfl,bD ?_⟩;refine⟨_,rfl,.ref l,.ty "list",_,_,_,rfl,rfl,.of (.lst hl),rfl,_,rfl,bD ?_⟩;refine⟨_,rfl,l,ys,rfl,ba.of hl,?_⟩;refine⟨λi m σ' H'=>m=ys.length-i/\i<=ys.length/\ax H H'/\∃o1 o2,σ'=[some (.ref s0),some (.ref l),o1,o2],⟨ys.length,by simp,Nat.zero_le _,ax.refl _,none,none,rfl⟩,?_⟩;rintro i m σ' H' ⟨rfl,hi,sH,o1,o2,rfl⟩;have G6:=sH _ _ hl
   by_cases FY:i<ys.length
   ·refine .inr ⟨⟨ys,ys[i],ba.of G6,by simp[FY]⟩,λσ' H'=>i+1<=ys.length/\ax H H'/\∃o1 o2,σ'=[some (.ref s0),some (.ref l),o1,o2],?_,λv H2 hv=>?_⟩
    ·rintro σ' H' ⟨h1,h2,h3⟩;exact⟨ys.length-(i+1),by omega,rfl,h1,h2,h3⟩
    ·obtain⟨T,y,hy,hT,rfl,rfl⟩:=hv;have ey:=hy ys (ba.of G6)
     have s2:ax H (upd H' T (.tup [.int i,y])):=λc u e=>by
      rw[ai (ar (sH _ _ e) hT)];exact sH _ _ e
     have ty:=(Rw y (List.mem_of_getElem? ey)).same s2;refine⟨T,_,rfl,bx.of ae,rfl,_,_,rfl,_,_,rfl,rfl,?_⟩;refine⟨_,rfl,_,rfl,s0,dx,p,y,true,rfl,s2 _ _ hs,hp,ty,λH3 s3=>⟨_,rfl,bD ?_⟩⟩;exact⟨FY,λc u e=>s3 _ _ (s2 _ _ e),_,_,rfl⟩
   ·refine .inl ⟨⟨ys,ba.of G6,by omega⟩,?_⟩;exact⟨_,rfl,q _ sH⟩
end K26
namespace Srt
open PySem PySem.W PyProof.Rows
structure Pm (n:Nat)(r:Nat->Nat)(p:Array Nat):Prop where
 size:p.size=n
 lt:∀k,k<n->p.getD k 0<n
 ne:∀k l,k<n->l<n->k≠l->r (p.getD k 0)≠r (p.getD l 0)
 perm:p.Perm (List.range n).toArray
variable {p:Array Nat}{k m j:Nat}
section
variable {n:Nat}{r:Nat->Nat}
theorem Pm.nq {n:Nat}{r:Nat->Nat}(P:Pm n r p)(k l:Nat)(hk:k<n)(hl:l<n)(h:k≠l):p.getD k 0≠p.getD l 0:=λz=>P.ne k l hk hl h (by rw[z])
theorem getD_some (h:k<p.size):p[k]?=some (p.getD k 0):=by simp[Array.getD,h]
theorem nV (inj:∀i j,i<n->j<n->i≠j->r i≠r j)(hp:p.Perm (List.range n).toArray):Pm n r p:=by
 have hl:p.toList.Perm (List.range n):=by simpa using hp.toList
 have hs:p.size=n:=by rw[<-Array.length_toList,hl.length_eq,List.length_range]
 have FY:∀k,k<n->p.getD k 0<n:=λk hk=>by
  have hm:p.getD k 0∈p.toList:=by
   rw[show p.getD k 0=p[k]'(by omega) by simp[Array.getD,hs,hk]];exact Array.mem_toList_iff.mpr (Array.getElem_mem _)
  exact List.mem_range.mp (hl.mem_iff.mp hm)
 refine⟨hs,FY,λk l hk G6 Gw=>inj _ _ (FY k hk) (FY l G6) λe=>Gw ?_,hp⟩;have nd:p.toList.Nodup:=hl.nodup_iff.mpr List.nodup_range
 have e1:p.toList[k]'(by simp;omega)=p.toList[l]'(by simp;omega):=by
  rw[show p.getD k 0=p[k]'(by omega) by simp[Array.getD,hs,hk],show p.getD l 0=p[l]'(by omega) by simp[Array.getD,hs,G6]] at e;simpa using e
 have pw:=List.pairwise_iff_getElem.mp (show p.toList.Pairwise (· ≠ ·) from nd)
 rcases Nat.lt_trichotomy k l with z|z|z
 ·exact absurd e1 (pw k l _ _ z)
 ·exact z
 ·exact absurd e1.symm (pw l k _ _ z)
noncomputable def Up (r:Nat->Nat)(p:Array Nat)(m:Nat):Prop:=∀i j,i<j->j<m->r (p.getD i 0)<r (p.getD j 0)
noncomputable def Dn (r:Nat->Nat)(p:Array Nat)(m:Nat):Prop:=∀i j,i<j->j<m->r (p.getD j 0)<r (p.getD i 0)
theorem Up.succ (h:Up r p m)(h1:1<=m)(e:r (p.getD (m-1) 0)<r (p.getD m 0)):Up r p (m+1):=λi j HR hj=>by
 by_cases z:j=m
 ·subst z
  by_cases z2:i=j-1
  ·subst z2;exact e
  ·exact Nat.lt_trans (h i (j-1) (by omega) (by omega)) e
 ·exact h i j HR (by omega)
theorem Dn.succ (h:Dn r p m)(h1:1<=m)(e:r (p.getD m 0)<r (p.getD (m-1) 0)):Dn r p (m+1):=λi j HR hj=>by
 by_cases z:j=m
 ·subst z
  by_cases z2:i=j-1
  ·subst z2;exact e
  ·exact Nat.lt_trans e (h i (j-1) (by omega) (by omega))
 ·exact h i j HR (by omega)
theorem qR (hm:m<=p.size)(hk:k<p.size):(kas_rev p 0 m).getD k 0=if k<m then p.getD (m-1-k) 0 else p.getD k 0:=by
 have e:=getElem?_mirror_all (xs:=p) (i:=0) hm k;have hs:(kas_rev p 0 m).size=p.size:=mirror_size _ _ _ _;have e2:(kas_rev p 0 m)[k]?=some ((kas_rev p 0 m).getD k 0):=getD_some (by rw[hs];exact hk)
 have e3:(kas_rev p 0 m)[k]?=if 0<=k/\k<m then p[0+m-1-k]? else p[k]?:=e
 rw[e2] at e3
 by_cases h:k<m
 ·rw[if_pos ⟨Nat.zero_le _,h⟩,show 0+m-1-k=m-1-k by omega,getD_some (by omega)] at e3;rw[if_pos h];exact Option.some.inj e3
 ·rw[if_neg (λz=>h z.2),getD_some hk] at e3;rw[if_neg h];exact Option.some.inj e3
theorem Dn.rev (h:Dn r p m)(hm:m<=p.size):Up r (kas_rev p 0 m) m:=λi j HR hj=>by
 rw[qR hm (by omega),qR hm (by omega),if_pos (by omega),if_pos hj];exact h _ _ (by omega) (by omega)
variable {cmp:Nat->Nat->(Bool->Shared->Prop)->Shared->Prop}{s:Fp}
theorem pN (hc:∀i j C,i<n->j<n->i≠j->C (decide (r i<r j)) s->cmp i j C s)(P:Pm n r p){Q:Nat->Shared->Prop}:∀(f m:Nat),1<=m->m+f=n->Up r p m →
 (∀m',m<=m'->m'<=n->Up r p m'->(m'<n->r (p.getD m' 0)<r (p.getD (m'-1) 0))->Q m' s)->(kas_asc p f m).kasWp cmp Q s
 |0,m,h1,hm,hu,hQ=>hQ m (Nat.le_refl _) (by omega) hu λh=>by omega
 |f+1,m,h1,hm,hu,hQ=>by
  refine hc _ _ _ (P.lt m (by omega)) (P.lt (m-1) (by omega)) (P.nq m (m-1) (by omega) (by omega) (by omega)) ?_;show((if decide (r (p.getD m 0)<r (p.getD (m-1) 0))=true then KasT.ret m else kas_asc p f (m+1)).kasWp cmp Q s)
  by_cases h:r (p.getD m 0)<r (p.getD (m-1) 0)
  ·rw[if_pos (decide_eq_true h)];exact hQ m (Nat.le_refl _) (by omega) hu λ_=>h
  ·rw[if_neg (by simpa using h)];have ne:=P.ne m (m-1) (by omega) (by omega) (by omega);exact pN hc P f (m+1) (by omega) (by omega) (hu.succ h1 (by omega)) λm' h2=>hQ m' (by omega)
theorem si (hc:∀i j C,i<n->j<n->i≠j->C (decide (r i<r j)) s->cmp i j C s)(P:Pm n r p){Q:Array Nat×Nat×Nat->Shared->Prop}:∀(f m:Nat),1<=m->m+f=n->Dn r p m →
 (∀m',m<=m'->m'<=n->Dn r p m'->Q (p,m',0) s)->(kas_desc f p m 0).kasWp cmp Q s
 |0,m,h1,hm,hu,hQ=>hQ m (Nat.le_refl _) (by omega) hu
 |f+1,m,h1,hm,hu,hQ=>by
  refine hc _ _ _ (P.lt m (by omega)) (P.lt (m-1) (by omega)) (P.nq m (m-1) (by omega) (by omega) (by omega)) ?_
  by_cases h:r (p.getD m 0)<r (p.getD (m-1) 0)
  ·rw[decide_eq_true h];exact si hc P f (m+1) (by omega) (by omega) (hu.succ h1 h) λm' h2=>hQ m' (by omega)
  ·rw[decide_eq_false h];refine hc _ _ _ (P.lt (m-1) (by omega)) (P.lt m (by omega)) (P.nq (m-1) m (by omega) (by omega) (by omega)) ?_;have ne:=P.ne m (m-1) (by omega) (by omega) (by omega);rw[decide_eq_true (show r (p.getD (m-1) 0)<r (p.getD m 0) by omega)];exact hQ m (Nat.le_refl _) (by omega) hu
theorem vI (inj:∀i j,i<n->j<n->i≠j->r i≠r j)(hc:∀i j C,i<n->j<n->i≠j->C (decide (r i<r j)) s->cmp i j C s)(P:Pm n r p){Q:Nat×Array Nat->Shared->Prop}(h1:1<=m)(hm:m<=n)(hd:Dn r p m)
 (hQ:∀m' p',m'<=n->1<=m'->Pm n r p'->Up r p' m'->Q (m',p') s):(kas_tail3 m n p).kasWp cmp Q s:=by
 unfold kas_tail3;rw[KasT.kasWp_bind];have P':Pm n r (kas_rev p 0 m):=nV inj ((mirror_perm _ _ _ _).trans P.perm);exact pN hc P' (n-m) m h1 (by omega) (hd.rev (by rw[P.size];exact hm)) λm' h2 h3 h4 _=>hQ m' _ h3 (by omega) P' h4
theorem xu (inj:∀i j,i<n->j<n->i≠j->r i≠r j)(hc:∀i j C,i<n->j<n->i≠j->C (decide (r i<r j)) s->cmp i j C s)(h0:1<=n)(P:Pm n r p){Q:Nat×Array Nat->Shared->Prop}
 (hQ:∀m' p',m'<=n->1<=m'->Pm n r p'->Up r p' m'->Q (m',p') s):(kas_count n p).kasWp cmp Q s:=by
 unfold kas_count;rw[KasT.kasWp_bind];refine pN hc P (n-1) 1 (Nat.le_refl _) (by omega) (λi j HR hj=>by omega) λm h1 h2 h3 h4=>?_
 by_cases e:m=n
 ·subst e;rw[if_pos (by simp)];exact hQ _ _ (Nat.le_refl _) h1 P h3
 ·rw[if_neg (by simpa using e)]
  by_cases h5:m>1
  ·rw[if_pos h5];refine hc _ _ _ (P.lt 0 (by omega)) (P.lt (m-1) (by omega)) (P.nq 0 (m-1) (by omega) (by omega) (by omega)) ?_;rw[decide_eq_true (h3 0 (m-1) (by omega) (by omega))];exact hQ _ _ h2 h1 P h3
  ·rw[if_neg h5]
   have e1:m=1:=by omega
   subst e1;unfold kas_descPart;rw[KasT.kasWp_bind];have d2:Dn r p (1+1):=Dn.succ (λi j HR hj=>by omega) (Nat.le_refl _) (h4 (by omega));refine si hc P (n-(1+1)) (1+1) (by omega) (by omega) d2 λm' h6 h7 h8=>?_;show((if 0>0 then _ else kas_tail3 m' n p).kasWp cmp Q s);rw[if_neg (by omega)];exact vI inj hc P (by omega) h7 h8 hQ
theorem km (hc:∀i j C,i<n->j<n->i≠j->C (decide (r i<r j)) s->cmp i j C s)(P:Pm n r p){Q:Nat->Shared->Prop}(hk:k<n)(hu:Up r p k):∀(f l q:Nat),l<=q->q<=k->q-l<=f->(∀j,j<l->r (p.getD j 0)<r (p.getD k 0))->(∀j,q<=j->j<k->r (p.getD k 0)<r (p.getD j 0)) →
 (∀l',l'<=k->(∀j,j<l'->r (p.getD j 0)<r (p.getD k 0))->(∀j,l'<=j->j<k->r (p.getD k 0)<r (p.getD j 0))->Q l' s)->(kas_place p k f l q).kasWp cmp Q s
 |0,l,q,h1,h2,h3,h4,h5,hQ=>hQ l (by omega) h4 λj h6 h7=>h5 j (by omega) h7
 |f+1,l,q,h1,h2,h3,h4,h5,hQ=>by
  unfold kas_place
  by_cases h:l ≥ q
  ·rw[if_pos h];exact hQ l (by omega) h4 λj h6 h7=>h5 j (by omega) h7
  ·rw[if_neg h];refine hc _ _ _ (P.lt k hk) (P.lt ((l+q)/2) (by omega)) (P.nq k ((l+q)/2) hk (by omega) (by omega)) ?_;have ne:=P.ne k ((l+q)/2) hk (by omega) (by omega)
   by_cases z:r (p.getD k 0)<r (p.getD ((l+q)/2) 0)
   ·rw[decide_eq_true z];refine km hc P hk hu f l ((l+q)/2) (by omega) (by omega) (by omega) h4 (λj h6 h7=>?_) hQ
    by_cases e:j=(l+q)/2
    ·subst e;exact z
    ·exact Nat.lt_trans z (hu _ _ (by omega) h7)
   ·rw[decide_eq_false z];refine km hc P hk hu f ((l+q)/2+1) q (by omega) h2 (by omega) (λj h6=>?_) h5 hQ
    by_cases e:j=(l+q)/2
    ·subst e;omega
    ·have:=hu j ((l+q)/2) (by omega) (by omega);omega
theorem rD {l:Nat}(hk:k<p.size)(hl:l<=k)(hj:j<p.size):(bubble p k (k-l)).getD j 0=if j=l then p.getD k 0 else if l<j/\j<=k then p.getD (j-1) 0 else p.getD j 0:=by
 have e:=getElem?_bubble hk (k-l) (by omega) j;rw[show k-(k-l)=l by omega,getD_some (by rw[bubble_size];exact hj)] at e
 by_cases h1:j=l
 ·rw[if_pos h1,getD_some hk] at e;rw[if_pos h1];exact Option.some.inj e
 ·rw[if_neg h1] at e |-
  by_cases h2:l<j/\j<=k
  ·rw[if_pos h2,getD_some (by omega)] at e;rw[if_pos h2];exact Option.some.inj e
  ·rw[if_neg h2,getD_some hj] at e;rw[if_neg h2];exact Option.some.inj e
theorem xB (inj:∀i j,i<n->j<n->i≠j->r i≠r j)(hc:∀i j C,i<n->j<n->i≠j->C (decide (r i<r j)) s->cmp i j C s){Q:Array Nat->Shared->Prop}(hQ:∀p',Pm n r p'->Up r p' n->Q p' s):∀(f:Nat)(p:Array Nat)(k:Nat),Pm n r p->k+f=n->Up r p k->(kas_bin f p k).kasWp cmp Q s
 |0,p,k,P,hk,hu=>hQ p P (by rw[<-hk];exact hu)
 |f+1,p,k,P,hk,hu=>by
  unfold kas_bin;rw[KasT.kasWp_bind];refine km hc P (by omega) hu k 0 k (Nat.zero_le _) (Nat.le_refl _) (by omega) (λj h=>by omega) (λj h1 h2=>by omega) λl h1 h2 h3=>?_;have P':Pm n r (bubble p k (k-l)):=nV inj ((bubble_perm _ _ _).trans P.perm);refine xB inj hc hQ f _ (k+1) P' (by omega) λi j HR hj=>?_;have sz:=P.size;rw[rD (by omega) h1 (by omega),rD (by omega) h1 (by omega)]
  by_cases e1:i=l
  ·rw[if_pos e1,if_neg (by omega),if_pos ⟨by omega,by omega⟩];exact h3 _ (by omega) (by omega)
  ·rw[if_neg e1]
   by_cases e2:j=l
   ·rw[if_pos e2,if_neg (by omega)];exact h2 _ (by omega)
   ·rw[if_neg e2]
    by_cases e3:l<j
    ·rw[if_pos (show l<j/\j<=k from⟨e3,by omega⟩)]
     by_cases e4:l<i
     ·rw[if_pos ⟨e4,by omega⟩];exact hu _ _ (by omega) (by omega)
     ·rw[if_neg (by omega)];exact hu _ _ (by omega) (by omega)
    ·rw[if_neg (by omega),if_neg (by omega)];exact hu _ _ HR (by omega)
theorem rA (inj:∀i j,i<n->j<n->i≠j->r i≠r j)(hc:∀i j C,i<n->j<n->i≠j->C (decide (r i<r j)) s->cmp i j C s)(h0:1<=n){Q:Array Nat->Shared->Prop}(hQ:∀p',Pm n r p'->Up r p' n->Q p' s):(kas_sort n).kasWp cmp Q s:=by
 unfold kas_sort;rw[KasT.kasWp_bind];refine xu inj hc h0 (nV inj (Array.Perm.refl _)) λm p h1 h2 P hu=>?_;show((if m<n then kas_bin (n-max m 1) p (max m 1) else KasT.ret p).kasWp cmp Q s)
 by_cases h:m<n
 ·rw[if_pos h,show max m 1=m by omega];exact xB inj hc hQ _ _ _ P (by omega) hu
 ·rw[if_neg h]
  have e:m=n:=by omega
  subst e;exact hQ p P hu
end
variable {vs:xF}{n:Nat}
section
variable {prog:zO}{w:World}{A:Around}{E:oP}{s:Fp}
noncomputable def m8 (prog:zO)(w:World)(A:Around)(ks:xF)(r:Nat->Nat)(s:Fp):Prop :=
 ∃κ,(∀Q:SortKind->Shared->Prop,Q κ s->wpAny (model prog w) A (keyKind' ks.toArray) Q (λ_ _=>False) s)/\∀i j C,i<ks.length->j<ks.length->i≠j->C (decide (r i<r j)) s->kas_ask prog w A κ ks i j C s
noncomputable def cZ (vs:xF)(p:Array Nat):List Value:=p.toList.map λi=>vs.getD i Value.none
theorem oJ (vs:xF):cZ vs (List.range vs.length).toArray=vs:=by
 unfold cZ;apply List.ext_getElem
 ·simp
 ·intro i h1 h2;simp[h2]
theorem uA {r:Nat->Nat}(P:Pm vs.length r p):(cZ vs p).length=vs.length:=by
 unfold cZ;rw[List.length_map,Array.length_toList,P.size]
theorem dj (h:n<64):n<=sizeLine:=by rw[sizeLine_eq];omega
noncomputable def uV (a:Addr)(h h':Heap):Prop:=∀b o,b≠a->h.get? b=some o->h'.get? b=some o
theorem yK {h:Heap}{a:Addr}{o1 o2:Obj}{g:Obj->Obj}:uV a h (((h.update a g).push o1).push o2):=λb o hb e=>by
 refine Heap.get?_push_of_some _ (Heap.get?_push_of_some _ ?_);rw[Heap.get?_update_ne _ _ _ _ hb];exact e
theorem ni {a:Addr}{r:Nat->Nat}{P:PySem.Fin->Shared->Prop}(ho:s.heap.get? a=some (seqObj "list" vs.toArray n))(h64:vs.length<64)
 (inj:∀i j,i<vs.length->j<vs.length->i≠j->r i≠r j)
 (hk:2<=vs.length->∀h',uV a s.heap h'->m8 prog w A vs r {s with heap:=h'})
 (hP:∀h' p c,uV a s.heap h'->h'.get? a=some (seqObj "list" (cZ vs p).toArray c)->Pm vs.length r p->Up r p vs.length->P (.done (.ret .none)) {s with heap:=h'}):
 wpAny (model prog w) A (Builtin.«list.sort» ⟨[.ref a],[]⟩) P E s:=by
 have ha:a<s.heap.objs.size:=Heap.lt_size ho;obtain⟨e1,W5⟩:∃e1,(s.heap.update a (Obj.mapSeq λ_=>(#[]:va))).get? a=some (seqObj "list" #[] e1):=⟨_,get?_update_seq ho λ_=>#[]⟩;rw[list_sort_plain];refine wpAny_bind (listItems_at ho rfl (wpAny_bind (listUpdate_at ho rfl (wpAny_bind (seqEpoch_at W5 rfl (wpAny_bind (wpAny_newTuple (wpAny_bind (wpAny_newList ?_ (Nat.zero_le _))) (dj h64))))) (by rw[List.size_toArray];exact dj h64) (Nat.zero_le _))));refine wpAny_holding (?_:wpAny (model prog w) A _ P E {s with heap:=((s.heap.update a (Obj.mapSeq λ_=>(#[]:va))).push (seqObj "tuple" vs.toArray 0)).push (seqObj "list" #[] 0)});have kp:uV a s.heap (((s.heap.update a (Obj.mapSeq λ_=>(#[]:va))).push (seqObj "tuple" vs.toArray 0)).push (seqObj "list" #[] 0)):=yK;have MA:(((s.heap.update a (Obj.mapSeq λ_=>(#[]:va))).push (seqObj "tuple" vs.toArray 0)).push (seqObj "list" #[] 0)).get? a=some (seqObj "list" #[] e1):=Heap.get?_push_of_some _ (Heap.get?_push_of_some _ W5);generalize ((s.heap.update a (Obj.mapSeq λ_=>(#[]:va))).push (seqObj "tuple" vs.toArray 0)).push (seqObj "list" #[] 0)=h6 at kp MA |-
 have fin:∀p,Pm vs.length r p->Up r p vs.length->P (.done (.ret .none)) {s with heap:=h6.update a (Obj.mapSeq λ_=>(cZ vs p).toArray)}:=λp pm up=>by
  obtain⟨c2,Kc⟩:∃c2,(h6.update a (Obj.mapSeq λ_=>(cZ vs p).toArray)).get? a=some (seqObj "list" (cZ vs p).toArray c2):=⟨_,get?_update_seq MA λ_=>(cZ vs p).toArray⟩;exact hP _ p c2 (λb o hb e=>by rw[Heap.get?_update_ne _ _ _ _ hb];exact kp b o hb e) Kc pm up
 have last:∀p,Pm vs.length r p->(List.toArray (cZ vs p)).size<=sizeLine:=λp pm=>by rw[List.size_toArray,uA pm];exact dj h64
 dsimp only
 by_cases h2:vs.toArray.size<2
 ·have small:vs.length<2:=by simpa using h2
  rw[if_pos h2,if_pos h2];refine wpAny_bind (wpAny_pure ?_);rw[StateT.run_pure];refine wpAny_bind (wpAny_pure ?_)
  have hm:(arrOf (SortSt.mk' general' (vs.toArray.zip vs.toArray) #[] 7 none)).map (·.2)=(cZ vs (List.range vs.length).toArray).toArray:=by
   rw[oJ];show(vs.toArray.zip vs.toArray).map (·.2)=vs.toArray;apply Array.toList_inj.mp;simp[List.map_snd_zip]
  have P0:Pm vs.length r (List.range vs.length).toArray:=nV inj (Array.Perm.refl _)
  have U0:Up r (List.range vs.length).toArray vs.length:=λi j HR hj=>by omega
  dsimp only;rw[hm];refine wpAny_bind (seqEpoch_at MA rfl (wpAny_bind (listUpdate_at MA rfl ?_ (Nat.zero_le _) (Nat.le_succ_of_le (last _ P0)))));simp only[bne_self_eq_false,Bool.false_eq_true,if_false];exact wpAny_pure (fin _ P0 U0)
 ·have big:2<=vs.length:=by simpa using h2
  rw[if_neg h2,if_neg h2];obtain⟨κ,HB,Lr⟩:=hk big h6 kp;refine wpAny_bind (wpAny_mono (HB (λκ' s0=>(kas_sort vs.length).kasWp (kas_ask prog w A κ' vs) (λp s'=>s'={s with heap:=h6}/\Pm vs.length r p/\Up r p vs.length) s0) (rA (n:=vs.length) (r:=r) inj Lr (by omega) (Q:=λp s'=>s'={s with heap:=h6}/\Pm vs.length r p/\Up r p vs.length) λp pm up=>⟨rfl,pm,up⟩)) (λκ' s0 hw=>?_) λ_ _ x=>x.elim);refine wpAny_bind (wpAny_mono (kat_run (κ:=κ') (Q:=λGG s'=>∃p:Array Nat,arrOf GG=p.map (kas_item (vs.toArray.zip vs.toArray))/\failedOf GG=none/\s'={s with heap:=h6}/\Pm vs.length r p/\Up r p vs.length) rfl big h64 (λp' GG s' _ a2 a3 a4=>⟨p',a2,a3,a4⟩) hw) ?_ λ_ _ e=>e);rintro⟨⟨⟩,GG⟩ s' ⟨p,Nn,hf,rfl,pm,up⟩;dsimp only;rw[kat_snds rfl Nn];refine wpAny_bind (seqEpoch_at MA rfl (wpAny_bind (listUpdate_at MA rfl ?_ (Nat.zero_le _) (Nat.le_succ_of_le (last _ pm)))));rw[hf];simp only[bne_self_eq_false,Bool.false_eq_true,if_false];exact wpAny_pure (fin p pm up)
theorem tI {l:Addr}{r:Nat->Nat}{Q:oP}(hl:s.heap.IsList l vs.toArray)(h64:vs.length<64)
 (inj:∀i j,i<vs.length->j<vs.length->i≠j->r i≠r j)
 (hk:2<=vs.length->∀h',(∀b o,s.heap.get? b=some o->h'.get? b=some o)->m8 prog w A.in1.in1 vs r {s with heap:=h'})
 (hQ:∀h' D p c,(∀b o,s.heap.get? b=some o->h'.get? b=some o)->s.heap.get? D=none->h'.get? D=some (seqObj "list" (cZ vs p).toArray c)->Pm vs.length r p->Up r p vs.length->Q (.ref D) {s with heap:=h'}):
 wpAny (model prog w) A (call (.builtin "sorted") [.ref l]) Q E s:=by
 refine Calls.call_function_entry kind_sorted plain_sorted entry_sorted (args_sorted1 _) ?_;unfold Builtin.«sorted»;refine wpAny_bind (m:=checkCount "sorted" 1 1 _) (wpAny_pure (wpAny_bind (collect_list hl (wpAny_bind (wpAny_newList ?_ (dj h64))) (dj h64))))
 have sz:((s.heap.push (seqObj "list" #[] 0)).update s.heap.objs.size (Obj.mapSeq (·++vs.toArray))).objs.size=s.heap.objs.size+1:=by rw[Heap.size_update];exact size_push' _ _
 have JF:(((s.heap.push (seqObj "list" #[] 0)).update s.heap.objs.size (Obj.mapSeq (·++vs.toArray))).push (seqObj "list" vs.toArray 0)).get? (s.heap.objs.size+1)=some (seqObj "list" vs.toArray 0):=by
  rw[<-sz];exact Heap.get?_push_size _ rfl
 have old:∀b o,s.heap.get? b=some o->(((s.heap.push (seqObj "list" #[] 0)).update s.heap.objs.size (Obj.mapSeq (·++vs.toArray))).push (seqObj "list" vs.toArray 0)).get? b=some o:=λb o q=>by
  have lt:b<s.heap.objs.size:=Heap.lt_size q;refine Heap.get?_push_of_some _ ?_;rw[Heap.get?_update_ne _ _ _ _ (Nat.ne_of_lt lt)];exact Heap.get?_push_of_some _ q
 have new:s.heap.get? (s.heap.objs.size+1)=none:=Heap.get?_none_of_le (Nat.le_succ _);show wpAny _ _ _ _ _ {s with heap:=((s.heap.push (seqObj "list" #[] 0)).update s.heap.objs.size (Obj.mapSeq (·++vs.toArray))).push (seqObj "list" vs.toArray 0)};rw[sz];generalize ((s.heap.push (seqObj "list" #[] 0)).update s.heap.objs.size (Obj.mapSeq (·++vs.toArray))).push (seqObj "list" vs.toArray 0)=h5 at JF old |-;have kp:∀h',uV (s.heap.objs.size+1) h5 h'->∀b o,s.heap.get? b=some o->h'.get? b=some o:=λh' k b o q=>k b o (λz=>by rw[z,new] at q;cases q) (old b o q);refine wpAny_bind (wpAny_holding (wpAny_call_entry slot_list_sort ⟨_,JF,rfl⟩ entry_list_sort (ni (s:={s with heap:=h5}) (r:=r) JF h64 inj (λb h' k=>hk b h' (kp h' k)) λh' p c k e pm up=>⟨_,rfl,?_⟩) (args_list_sort _)));exact wpAny_pure ⟨_,rfl,hQ h' _ p c (kp h' k) new e pm up⟩
end
open L2
noncomputable abbrev Ky:=Int×List Int
noncomputable def lu (a b:Ky):Bool:=if a.1=b.1 then HT.c5 a.2 b.2 else decide (a.1<b.1)
theorem j7:∀xs:List Int,HT.c5 xs xs=false
 |[]=>rfl
 |x::xs=>by rw[HT.dS,if_pos rfl];exact j7 xs
theorem lX:∀{xs ys zs:List Int},HT.c5 xs ys=true->HT.c5 ys zs=true->HT.c5 xs zs=true
 |[],[],_,h,_=>by cases h
 |[],y::ys,[],_,h=>by cases h
 |[],y::ys,z::zs,_,_=>rfl
 |x::xs,[],_,h,_=>by cases h
 |x::xs,y::ys,[],_,h=>by cases h
 |x::xs,y::ys,z::zs,h1,h2=>by
  rw[HT.dS] at h1 h2 |-
  by_cases e1:x=y
  ·rw[if_pos e1] at h1
   by_cases e2:y=z
   ·rw[if_pos e2] at h2;rw[if_pos (e1.trans e2)];exact lX h1 h2
   ·rw[if_neg e2] at h2;rw[e1,if_neg e2];exact h2
  ·rw[if_neg e1] at h1;have l1:=of_decide_eq_true h1
   by_cases e2:y=z
   ·rw[<-e2,if_neg e1];exact h1
   ·rw[if_neg e2] at h2;have l2:=of_decide_eq_true h2;rw[if_neg (by omega)];exact decide_eq_true (by omega)
theorem lQ:∀{xs ys:List Int},xs≠ys->HT.c5 xs ys=true\/HT.c5 ys xs=true
 |[],[],h=>absurd rfl h
 |[],y::ys,_=>.inl rfl
 |x::xs,[],_=>.inr rfl
 |x::xs,y::ys,h=>by
  rw[HT.dS,HT.dS]
  by_cases e:x=y
  ·subst e;rw[if_pos rfl,if_pos rfl];exact lQ λz=>h (by rw[z])
  ·rw[if_neg e,if_neg (Ne.symm e)];simp only[decide_eq_true_eq];omega
theorem kZ (a:Ky):lu a a=false:=by unfold lu;rw[if_pos rfl];exact j7 _
theorem jb {a b c:Ky}(h1:lu a b=true)(h2:lu b c=true):lu a c=true:=by
 unfold lu at h1 h2 |-
 by_cases e1:a.1=b.1
 ·rw[if_pos e1] at h1
  by_cases e2:b.1=c.1
  ·rw[if_pos e2] at h2;rw[if_pos (e1.trans e2)];exact lX h1 h2
  ·rw[if_neg e2] at h2;rw[e1,if_neg e2];exact h2
 ·rw[if_neg e1] at h1;have l1:=of_decide_eq_true h1
  by_cases e2:b.1=c.1
  ·rw[<-e2,if_neg e1];exact h1
  ·rw[if_neg e2] at h2;have l2:=of_decide_eq_true h2;rw[if_neg (by omega)];exact decide_eq_true (by omega)
theorem iQ {a b:Ky}(h:a≠b):lu a b=true\/lu b a=true:=by
 unfold lu
 by_cases e:a.1=b.1
 ·rw[if_pos e,if_pos e.symm];exact lQ λz=>h (Prod.ext e z)
 ·rw[if_neg e,if_neg (Ne.symm e)];simp only[decide_eq_true_eq];omega
noncomputable def cL (ks:List Ky)(i:Nat):Ky:=ks.getD i (0,[])
noncomputable def rk (ks:List Ky)(i:Nat):Nat:=(List.range ks.length).countP λj=>lu (cL ks j) (cL ks i)
theorem lP {α:Type}{p q:α->Bool}:∀{l:List α},(∀x∈l,p x=true->q x=true)->(∃x∈l,q x=true/\p x=false)->l.countP p<l.countP q
 |[],_,⟨x,hx,_⟩=>by cases hx
 |a::l,h,⟨x,hx,h1,h2⟩=>by
  have le:∀l':List α,(∀x∈l',p x=true->q x=true)->l'.countP p<=l'.countP q:=λl' h'=>List.countP_mono_left h';rw[List.countP_cons,List.countP_cons]
  rcases List.mem_cons.mp hx with rfl|hx
  ·rw[if_pos h1,if_neg (by rw[h2];exact Bool.false_ne_true)];have:=le l λx hx=>h x (List.mem_cons_of_mem _ hx);omega
  ·have ih:=lP (l:=l) (λx hx=>h x (List.mem_cons_of_mem _ hx)) ⟨x,hx,h1,h2⟩;have h0:=h a List.mem_cons_self
   cases e:p a with
   |false=>simp only[Bool.false_eq_true,if_false];omega
   |true=>rw[h0 e];simp only[if_true];omega
variable {ks:List Ky}
theorem iD {i:Nat}(hi:i<ks.length)(h:lu (cL ks i) (cL ks j)=true):rk ks i<rk ks j :=
 lP (λl _ hl=>jb hl h) ⟨i,List.mem_range.mpr hi,h,kZ _⟩
theorem xH {i:Nat}(hi:i<ks.length)(hj:j<ks.length):decide (rk ks i<rk ks j)=lu (cL ks i) (cL ks j):=by
 cases e:lu (cL ks i) (cL ks j) with
 |true=>exact decide_eq_true (iD hi e)
 |false =>
  refine decide_eq_false λz=>?_
  by_cases k:cL ks i=cL ks j
  ·unfold rk at z;rw[k] at z;exact Nat.lt_irrefl _ z
  ·rcases iQ k with h|h
   ·rw[e] at h;cases h
   ·exact Nat.lt_asymm z (iD hj h)
theorem wa (nd:ks.Nodup):∀i j,i<ks.length->j<ks.length->i≠j->rk ks i≠rk ks j:=λi j hi hj Gw z=>by
 have k:cL ks i≠cL ks j:=λe=>by
  have e':ks[i]=ks[j]:=by
   unfold cL at e;simpa[hi,hj] using e
  have pw:=List.pairwise_iff_getElem.mp (show ks.Pairwise (· ≠ ·) from nd)
  rcases Nat.lt_or_gt_of_ne Gw with l|l
  ·exact pw i j _ _ l e'
  ·exact pw j i _ _ l e'.symm
 rcases iQ k with h|h
 ·have:=iD hi h;omega
 ·have:=iD hj h;omega
noncomputable def rT (K:Frag)(H:Hp)(x:V)(k:Ky):Prop:=∃a b rest,x=.ref a/\bx K H a (.int k.1 :: .ref b::rest)/\bx K H b (k.2.map V.int)
noncomputable def dk (K:Frag)(H:Hp):List V->List Ky->Prop
 |[],[]=>True
 |x::xs,k::ks=>rT K H x k/\dk K H xs ks
 |_,_=>False
variable {K:Frag}{H:Hp}
theorem dk.len :∀{xs:List V}{ks:List Ky},dk K H xs ks->xs.length=ks.length
 |[],[],_=>rfl
 |_::_,_::_,⟨_,r⟩=>congrArg (·+1) r.len
 |[],_::_,h=>h.elim
 |_::_,[],h=>h.elim
theorem dk.get :∀{xs:List V}{ks:List Ky}{i:Nat}{x:V},dk K H xs ks->xs[i]?=some x->rT K H x (cL ks i)
 |x::xs,k::ks,0,y,⟨h,_⟩,e=>by simp at e;subst e;exact h
 |x::xs,k::ks,i+1,y,⟨_,r⟩,e=>by
  have:=r.get (i:=i) (x:=y) (by simpa using e);simpa[cL] using this
 |[],[],i,y,_,e=>by simp at e
 |[],_::_,_,_,h,_=>h.elim
 |_::_,[],_,_,h,_=>h.elim
theorem ib :∀ns:List Int,cj K H (ns.map D.int) (ns.map V.int)
 |[]=>by unfold cj;rfl
 |n::ns=>by unfold cj;exact⟨_,_,rfl,by unfold aX;rfl,ib ns⟩
theorem wy (ns:List Int):pC (.tup (ns.map D.int))<=1:=by
 unfold pC
 have:∀ms:List Int,lE (ms.map D.int)=0:=λms=>by
  induction ms with
  |nil=>unfold lE;rfl
  |cons m ms ih=>rw[List.map_cons];unfold lE;rw[ih];unfold pC;rfl
 rw[this];omega
theorem oB:∀ns ms:List Int,eE (ns.map D.int) (ms.map D.int)=decide (ns=ms)
 |[],[]=>by simp;rfl
 |[],m::ms=>by simp;rfl
 |n::ns,[]=>by simp;rfl
 |n::ns,m::ms=>by
  show((n==m)&&eE (ns.map D.int) (ms.map D.int))=_;rw[oB ns ms]
  by_cases e:n=m
  ·subst e;simp
  ·simp[e]
variable {xs:List V}{us:xF}
section
variable {X:Cx}{pins:List (Addr×Obj)}{σ:L2.St}{H:Hp}{s:Fp}
theorem yU {A:Around}{x y:V}{u v:Value}{k j:Ky}{C:Bool->Shared->Prop}{E:oP}(I:Inv X pins σ H s)(hA:A.units+2<cLine)(hx:rT X.K H x k)(hy:rT X.K H y j)(rx:aD x u)(ry:aD y v)(ne:k≠j)(h:C (lu k j) s):
 wpAny (model X.prog X.w) A (keyLt' (tuples' true) u v) C E s:=by
 obtain⟨a,b,rest,rfl,h1,h2⟩:=hx;obtain⟨a',b',W6,rfl,JI,My⟩:=hy
 cases(show u=Value.ref a from rx)
 cases(show v=Value.ref a' from ry)
 obtain⟨its,r1,⟨o1,g1,_,n1,d1⟩,_⟩:=I.tuple h1;obtain⟨its',Rx,⟨o1',Nh,_,n1',Zq⟩,_⟩:=I.tuple JI;refine kat_lt g1 d1 Nh Zq ?_
 cases r1 with
 |cons q1 r1 =>
  cases r1 with
  |cons q2 r1 =>
   cases Rx with
   |cons Zr Rx =>
    cases Rx with
    |cons Zt Rx =>
     obtain⟨t,rfl⟩:=q1;obtain⟨t',rfl⟩:=Zr
     rename_i w2 _ Zu _
     cases(show w2=Value.ref b from q2)
     cases(show Zu=Value.ref b' from Zt)
     show KatLex _ _ _ _ _ _ ((Value.int k.1 t,Value.int j.1 t'):: (Value.ref b,Value.ref b'):: _) 0 s;refine kat_cons (SeqAt.EqAt.int_int k.1 t j.1 t' X.prog X.w _ _ ?_)
     have klt_def:lu k j=if k.1=j.1 then HT.c5 k.2 j.2 else decide (k.1<j.1):=rfl
     refine kat_go (λe=>kat_yes ?_) λe=>kat_no ?_
     ·have e1:k.1=j.1:=by simpa using e
      have n2:k.2≠j.2:=λz=>ne (Prod.ext e1 z);have dd:=(mq I 1 A (.tup (k.2.map D.int)) (.tup (j.2.map D.int)) (.ref b) (.ref b') (.ref b) (.ref b') (wy _) (by omega) (by unfold aX;exact⟨b,_,rfl,h2,ib _⟩) (by unfold aX;exact⟨b',_,rfl,My,ib _⟩) rfl rfl).2.1;have e2:iM (.tup (k.2.map D.int)) (.tup (j.2.map D.int))=false:=(oB _ _).trans (decide_eq_false n2);rw[e2] at dd;refine kat_cons (dd X.prog X.w _ _ (kat_no ?_));rw[klt_def,if_pos e1] at h;obtain⟨FZ,p2,t2,_⟩:=I.tuple h2;obtain⟨W7,Zv,Zw,_⟩:=I.tuple My;exact kat_one _ _ (HT.abB t2 Zw (kX p2) (kX Zv) (by omega) h)
     ·have e1:k.1≠j.1:=by simpa using e
      rw[klt_def,if_neg e1] at h;exact oneLt_int h
theorem xU (I:Inv X pins σ H s)(xs:List V):∀(ks:List Ky)(us:xF),dk X.K H xs ks->aR xs us->∃fs:List Value,KatTups s.heap us fs/\fs.length=us.length/\∀f∈fs,∃i t,f=Value.int i t:=by
 induction xs with
 |nil =>
  intro ks us _ r
  cases r
  exact⟨[],.nil,rfl,λf hf=>by cases hf⟩
 |cons x xs ih =>
  intro ks us h r
  cases ks with
  |nil=>exact h.elim
  |cons k ks =>
   cases r with
   |cons rx rv =>
    rename_i u us
    obtain⟨⟨a,b,rest,e,h1,_⟩,hr⟩:=h;obtain⟨fs,t,hl,hf⟩:=ih ks us hr rv;subst e
    cases(show u=Value.ref a from rx)
    obtain⟨its,r1,⟨o1,g1,c1,n1,d1⟩,_⟩:=I.tuple h1
    cases r1 with
    |cons q1 r1 =>
     obtain⟨tk,rfl⟩:=q1;refine⟨Value.int k.1 tk::fs,.cons g1 c1 d1 rfl t,by simp[hl],λf Zx=>?_⟩
     rcases List.mem_cons.mp Zx with rfl|z
     ·exact⟨_,_,rfl⟩
     ·exact hf f z
theorem kn {A:Around}(I:Inv X pins σ H s)(hA:A.units+2<cLine)(hk:dk X.K H xs ks)(rv:aR xs us)(nd:ks.Nodup)(h2:2<=us.length):m8 X.prog X.w A us (rk ks) s:=by
 obtain⟨fs,t,hl,hf⟩:=xU I xs ks us hk rv;have uC:=hk.len;have xo:=rv.length;refine⟨tuples' true,λQ hq=>kat_kind (T:=Value.type "int") t (by omega) (λv hv=>?_) (by decide) hq,λi j C hi hj Gw hc=>?_⟩
 ·obtain⟨i,tk,rfl⟩:=hf v hv;exact .now
 ·have gi:∃x,xs[i]?=some x/\aD x (us.getD i .none):=by
   have W8:i<xs.length:=by omega
   obtain⟨u,e,r⟩:=rv.get (i:=i) (x:=xs[i]) (by simp[W8]);refine⟨xs[i],by simp[W8],?_⟩;rw[List.getD_eq_getElem?_getD,e];exact r
  have gj:∃x,xs[j]?=some x/\aD x (us.getD j .none):=by
   have W9:j<xs.length:=by omega
   obtain⟨u,e,r⟩:=rv.get (i:=j) (x:=xs[j]) (by simp[W9]);refine⟨xs[j],by simp[W9],?_⟩;rw[List.getD_eq_getElem?_getD,e];exact r
  obtain⟨x,ex,rx⟩:=gi;obtain⟨y,ey,ry⟩:=gj;rw[xH (by omega) (by omega)] at hc
  have Zy:cL ks i≠cL ks j:=λz=>by
   have e':ks[i]'(by omega)=ks[j]'(by omega):=by
    unfold cL at z;simpa[show i<ks.length by omega,show j<ks.length by omega] using z
   have pw:=List.pairwise_iff_getElem.mp (show ks.Pairwise (· ≠ ·) from nd)
   rcases Nat.lt_or_gt_of_ne Gw with l|l
   ·exact pw i j _ _ l e'
   ·exact pw j i _ _ l e'.symm
  exact yU I hA (hk.get ex) (hk.get ey) rx ry Zy hc
end
section
variable {α:Type}
noncomputable def lz (k:Ky)(x:α):List (Ky×α)->List (Ky×α)
 |[]=>[(k,x)]
 |(j,y):: r=>if lu k j=true then(k,x):: (j,y):: r else(j,y):: lz k x r
noncomputable def dq:List (Ky×α)->List (Ky×α)
 |[]=>[]
 |(k,x):: r=>lz k x (dq r)
theorem iP (k:Ky)(x:α):∀l:List (Ky×α),(lz k x l).Perm ((k,x):: l)
 |[]=>.refl _
 |(j,y):: r=>by
  unfold lz
  split
  ·exact .refl _
  ·exact((iP k x r).cons _).trans (.swap _ _ _)
theorem cW:∀l:List (Ky×α),(dq l).Perm l
 |[]=>.refl _
 |(k,x):: r=>(iP k x _).trans ((cW r).cons _)
noncomputable def AO (l:List (Ky×α)):Prop:=l.Pairwise λa b=>lu a.1 b.1=true
theorem rC {k:Ky}{x:α}:∀{l:List (Ky×α)},AO l->(∀p∈l,p.1≠k)->AO (lz k x l)
 |[],_,_=>List.pairwise_singleton _ _
 |(j,y):: r,h,hn=>by
  obtain⟨h1,h2⟩:=List.pairwise_cons.mp h;unfold lz
  by_cases e:lu k j=true
  ·rw[if_pos e];refine List.pairwise_cons.mpr ⟨λp hp=>?_,h⟩
   rcases List.mem_cons.mp hp with rfl|hp
   ·exact e
   ·exact jb e (h1 p hp)
  ·rw[if_neg e];have jk:lu j k=true:=(iQ (hn _ List.mem_cons_self)).resolve_right e;refine List.pairwise_cons.mpr ⟨λp hp=>?_,rC h2 λp hp=>hn p (List.mem_cons_of_mem _ hp)⟩
   rcases List.mem_cons.mp ((iP k x r).mem_iff.mp hp) with rfl|hp
   ·exact jk
   ·exact h1 p hp
theorem nX:∀{l:List (Ky×α)},(l.map (·.1)).Nodup->AO (dq l)
 |[],_=>.nil
 |(k,x):: r,h=>by
  obtain⟨h1,h2⟩:=List.nodup_cons.mp h;exact rC (nX h2) λp hp z=>h1 (z▸List.mem_map_of_mem (f:=(·.1)) ((cW r).mem_iff.mp hp))
theorem l8:∀{l1 l2:List (Ky×α)},AO l1->AO l2->l1.Perm l2->l1=l2
 |[],l2,_,_,p=>(List.nil_perm.mp p).symm
 |a::l1,[],_,_,p=>(List.nil_perm.mp p.symm)
 |a::l1,b::l2,h1,h2,p=>by
  obtain⟨u1,v1⟩:=List.pairwise_cons.mp h1;obtain⟨u2,v2⟩:=List.pairwise_cons.mp h2
  have e:a=b:=by
   rcases List.mem_cons.mp (p.mem_iff.mp List.mem_cons_self) with z|z
   ·exact z
   ·rcases List.mem_cons.mp (p.mem_iff.mpr (List.mem_cons_self (a:=b) (l:=l2))) with w|w
    ·exact w.symm
    ·have c1:=u2 a z;have c2:=u1 b w;have c3:=jb c1 c2;rw[kZ] at c3
     cases c3
  subst e;rw[l8 v1 v2 (List.Perm.cons_inv p)]
theorem xf {l1 l2:List (Ky×α)}(nd:(l2.map (·.1)).Nodup)(h:AO l1)(p:l1.Perm l2):l1=dq l2:=l8 h (nX nd) (p.trans (cW l2).symm)
end
noncomputable def CT (xs:List V)(p:Array Nat):List V:=p.toList.map λi=>xs.getD i .non
theorem nR (rv:aR xs us){r:Nat->Nat}(P:Pm n r p)(hn:n<=xs.length):aR (CT xs p) (cZ us p):=by
 have key:∀l:List Nat,(∀i∈l,i<xs.length)->aR (l.map λi=>xs.getD i .non) (l.map λi=>us.getD i Value.none):=by
  intro l
  induction l with
  |nil=>intro _;exact .nil
  |cons i l ih =>
   intro h;have hi:=h i List.mem_cons_self;obtain⟨u,e,r⟩:=rv.get (i:=i) (x:=xs[i]) (by simp[hi]);refine .cons ?_ (ih λj hj=>h j (List.mem_cons_of_mem _ hj));show aD (xs.getD i .non) (us.getD i Value.none);rw[List.getD_eq_getElem?_getD,List.getD_eq_getElem?_getD,e,show xs[i]?=some xs[i] by simp[hi]];exact r
 refine key p.toList λi hi=>?_
 have z:i∈(List.range n):=by
  have pl:p.toList.Perm (List.range n):=by simpa using P.perm.toList
  exact pl.mem_iff.mp hi
 have:=List.mem_range.mp z;omega
theorem oz (hl:xs.length=ks.length)(nd:ks.Nodup)(P:Pm xs.length (rk ks) p)(U:Up (rk ks) p xs.length):CT xs p=(dq (ks.zip xs)).map (·.2):=by
 have pl:p.toList.Perm (List.range xs.length):=by simpa using P.perm.toList
 have e1:(List.range xs.length).map (λi=>(cL ks i,xs.getD i V.non))=ks.zip xs:=by
  apply List.ext_getElem
  ·simp[hl]
  ·intro i h1 h2
   have hi:i<xs.length:=by simpa using h1
   have hk:i<ks.length:=by omega
   simp[cL,hi,hk]
 have z:p.toList.map (λi=>(cL ks i,xs.getD i V.non))=dq (ks.zip xs):=by
  refine xf ?_ ?_ ?_
  ·rw[List.map_fst_zip (by omega)];exact nd
  ·unfold AO;rw[List.pairwise_map];refine List.pairwise_iff_getElem.mpr λi j hi hj HR=>?_;have sz:=P.size;rw[Array.length_toList] at hi hj;have u:=U i j HR (by omega)
   have gi:p.getD i 0=p.toList[i]:=by simp[Array.getD,hi]
   have gj:p.getD j 0=p.toList[j]:=by simp[Array.getD,hj]
   rw[gi,gj] at u
   have bi:p.toList[i]<ks.length:=by rw[<-gi,<-hl];exact P.lt i (by omega)
   have bj:p.toList[j]<ks.length:=by rw[<-gj,<-hl];exact P.lt j (by omega)
   rw[<-xH bi bj];exact decide_eq_true u
  ·exact(pl.map _).trans (by rw[e1])
 rw[<-z,List.map_map];rfl
noncomputable def BO (K:Frag):List V->Hp->VK->Prop:=λvs H Q=>∃l xs ks,vs=[.ref l]/\ba K H l xs/\xs.length<64/\dk K H xs ks/\ks.Nodup/\∀D,H D=none->Q (.ref D) (upd H D (.lst ((dq (ks.zip xs)).map (·.2))))
section
variable {X:Cx}{k:Nat}
theorem n5 (hr:Fq (k+2) X.A):dE X (.builtin "sorted") (BO X.K):=by
 intro pins s σ H vs us Q I r h;obtain⟨l,xs,ks,rfl,hl,h64,hk,nd,q⟩:=h;obtain⟨u,rfl,ru⟩:=eO r
 cases(show u=Value.ref l from ru)
 obtain⟨its,rv,pl,hz⟩:=I.list hl;have ln:=rv.length;have lk:=hk.len;have inj:=wa nd;refine tI (r:=rk ks) pl.isList (by omega) (λi j hi hj=>inj i j (by omega) (by omega)) (λh2 h' kp=>?_) λh' D p c kp hD e pm up=>?_
 ·exact kn (s:={s with heap:=h'}) (I.kept (t':=s.toks) kp) (by have:=(hr.in1.in1).units;omega) hk rv nd h2
 ·have Xa:Pm xs.length (rk ks) p:=by rw[ln];exact pm
  have Zz:Up (rk ks) p xs.length:=by rw[ln];exact up
  have hv:=nR rv Xa (Nat.le_refl _);rw[oz lk nd Xa Zz] at hv
  have hlen:((dq (ks.zip xs)).map (·.2)).length<=sizeLine:=by
   rw[List.length_map,(cW _).length_eq,List.length_zip];exact Nat.le_trans (Nat.min_le_right _ _) (dj h64)
  exact⟨.ref D,_,I.newObj (t':=s.toks) (o:=.lst ((dq (ks.zip xs)).map (·.2))) kp hD ⟨hlen,_,c,hv,e⟩,rfl,q D (I.abY hD)⟩
end
noncomputable def mr (sp:Sp):List V->Hp->(List V->Hp->Prop)->Prop
 |[],H,R=>R [] H
 |x::xs,H,R=>sp [x] H (λk H1=>mr sp xs H1 λks H2=>R (k::ks) H2) λ_ _ _=>False
variable {b:Addr}{ob:Obj}
section
variable {X:Cx}{pins:List (Addr×Obj)}{σ:L2.St}{H:Hp}{s:Fp}
theorem uP {D:Addr}{o:HO}(I:Inv X pins σ H s)(f:cq X pins H D)(hD:X.s₀.heap.objs.size<=D)(new:br X.prog X.w (upd H D o) s.heap D o):Inv X pins σ (upd H D o) s:=by
 obtain⟨f0,f1,f2,f3,f4,f5⟩:=f;have u:=I.base;refine⟨I.ok,I.os,I.bare,⟨u.keep,u.slot,λb' o' e n hx=>?_,u.there,λb' xs e=>?_,λb' o' u' e=>?_,λb' ps e=>?_⟩,I.loc,I.cell,?_,λx c e=>?_,λp hp=>?_,c7 I.hok f0 new,I.len⟩
 ·rw[ai (Nat.ne_of_lt (Nat.lt_of_lt_of_le (Heap.lt_size e) hD))];exact u.free b' o' e n hx
 ·rw[ai (ar (u.aam b' xs e) f0)];exact u.aam b' xs e
 ·rw[ai (ar (u.aak b' o' u' e) f0)];exact u.aak b' o' u' e
 ·obtain⟨m,q⟩:=u.aas b' ps e;exact⟨m,by rw[ai (ar q f0)];exact q⟩
 ·rw[ai (Ne.symm f1)];exact I.free
 ·rw[ai (f4 x c e)];exact I.aag x c e
 ·obtain⟨e,n,r⟩:=I.pin p hp;exact⟨e,by rw[ai (f5 p hp)];exact n,r⟩
theorem xP {c:Addr}(f:cq X pins H b)(h:c≠b):cq X (pins++[(c,ob)]) H b:=by
 obtain⟨f0,f1,f2,f3,f4,f5⟩:=f;refine⟨f0,f1,f2,f3,f4,λp hp=>?_⟩;rw[<-List.append_assoc] at hp
 rcases List.mem_append.mp hp with z|z
 ·exact f5 p z
 ·have e:p=(c,ob):=by simpa using z
  subst e;exact h
theorem nh {H':Hp}(f:cq X pins H b)(h:H' b=none):cq X pins H' b:=⟨h,f.2⟩
theorem sx (I:Inv X pins σ H s)(f:cq X pins H b)(e:s.heap.get? b=some ob)(d:∀v,ob.data≠.cell v):Inv X (pins++[(b,ob)]) σ H s:=I.aap λp hp=>by
 rcases List.mem_append.mp hp with z|z
 ·exact I.pin p (List.mem_append_right _ z)
 ·have e1:p=(b,ob):=by simpa using z
  subst e1;exact⟨e,f.1,f.2.1,f.2.2.1,d⟩
theorem lM (I:Inv X (pins++[(b,ob)]) σ H s):Inv X pins σ H s:=I.aap λp hp=>I.pin p (List.mem_append_right _ (List.mem_append_left _ hp))
theorem wC (I:Inv X (pins++[(b,ob)]) σ H s):s.heap.get? b=some ob/\H b=none:=by
 obtain⟨e,n,_⟩:=I.pin (b,ob) (List.mem_append_right _ (List.mem_append_right _ (by simp)));exact⟨e,n⟩
end
theorem kE {c:String}{xs:va}:∀v,(seqObj c xs n).data≠.cell v:=λv z=>by cases z
variable {s:Fp}{Q:VK}
section
variable {X:Cx}{pins:List (Addr×Obj)}{σ:L2.St}{k:Nat}{f:Addr}{fd:vH}{ps:nO}{sp:Sp}{A:Around}{E:oP}
theorem u9 {x:V}{u:Value}(F:Ef X.prog X.w X.K X.mg X.base (aO X.prog X.w) k f fd ps sp)(hr:Fq k A)(hA:∀H s,Inv X pins σ H s->As X.prog X.w X.K X.mg X.base A X.stack s H)(hb:az X.K fd ps [])(I:Inv X pins σ H s)(r:aD x u)(h:sp [x] H Q λ_ _ _=>False):
 wpAny (model X.prog X.w) A (call (.ref f) [u]) (EP X pins σ Q) (λ_ _=>False) s:=by
 have hl:([u]:xF).length+([]:xF).length=ps.length:=by have:=F.len _ _ _ _ h;simpa using this
 have bd:=hb s [u] I.kIn hl;rw[List.append_nil] at bd;refine wpAny_call (codeAny_mono (F.run A X.stack s H ⟨[u],[]⟩ [u] [x] Q _ hr (hA H s I) bd (.cons r .nil) h) λres s' hq=>?_)
 cases res with
 |error e =>
  obtain⟨a,cls,a0,B,d,H',_,_,_,_,hE⟩:=hq;exact hE.elim
 |ok fl =>
  cases fl with
  |ret v=>exact I.after hq
  |next=>exact False.elim hq
  |brk=>exact False.elim hq
  |cont=>exact False.elim hq
end
noncomputable abbrev ku (X:Cx)(xs:List V)(Q:VK):List V->Hp->Prop:=λks H2=>∃kz,dk X.K H2 ks kz/\kz.Nodup/\∀D,H2 D=none->Q (.ref D) (upd H2 D (.lst ((dq (kz.zip xs)).map (·.2))))
section
variable {X:Cx}{pins:List (Addr×Obj)}{σ:L2.St}{k:Nat}{f:Addr}{fd:vH}{ps:nO}{sp:Sp}{A:Around}{E:oP}
theorem xQ {ks:xF}(h:ks.length=vs.length):((ks.toArray.zip vs.toArray).map (·.2))=vs.toArray:=by
 apply Array.toList_inj.mp;rw[Array.toList_map,ksk_zip];simp only[List.toList_toArray] at *;exact List.map_snd_zip (by omega)
theorem tQ {D kS:Addr}{e1 c:Nat}{kV:List V}{ks:xF}{P:PySem.Fin->Shared->Prop}(hA:A.units+2<cLine)(hD:X.s₀.heap.objs.size<=D)(fD:cq X pins H D)(fS:cq X pins H kS)(ne:kS≠D)
 (I:Inv X pins σ H s)(eD:s.heap.get? D=some (seqObj "list" #[] e1))(eS:s.heap.get? kS=some (seqObj "list" ks.toArray c))(rx:aR xs us)(Ls:aR kV ks)(hl:kV.length=xs.length)(h64:xs.length<64)(w:ku X xs Q kV H)
 (hP:∀s',EP X pins σ Q (.ref D) s'->P (.done (.ret .none)) s'):wpAny (model X.prog X.w) A (ksk_end D false us.toArray e1 (.ref kS) ks.toArray) P E s:=by
 obtain⟨kz,hk,nd,q⟩:=w;have l1:=rx.length;have l2:=Ls.length;have l3:=hk.len;have inj:=wa nd
 have fin:∀p,Pm xs.length (rk kz) p->Up (rk kz) p xs.length->∀st:SortSt,(arrOf st).map (·.2)=(cZ us p).toArray->failedOf st=none->wpAny (model X.prog X.w) A (ksk_tail D false e1 (.ref kS) st) P E s:=λp pm up st Nn hf=>by
  have SH:=nR rx pm (Nat.le_refl _);rw[oz (by omega) nd pm up] at SH
  have hlen:((dq (kz.zip xs)).map (·.2)).length<=sizeLine:=by
   rw[List.length_map,(cW _).length_eq,List.length_zip];exact Nat.le_trans (Nat.min_le_right _ _) (dj h64)
  have SI:(cZ us p).toArray.size<=sizeLine:=by rw[List.size_toArray,<-SH.length];exact hlen
  have GS:=Heap.SameBut.update s.heap kS (Obj.mapSeq λ_=>(#[]:va));have IK:(s.heap.update kS (Obj.mapSeq λ_=>(#[]:va))).get? D=some (seqObj "list" #[] e1):=(GS.2 D (Ne.symm ne)).trans eD;have I1:Inv X pins σ H {s with heap:=s.heap.update kS (Obj.mapSeq λ_=>(#[]:va))}:=cm I fS GS;unfold ksk_tail;dsimp only;rw[Nn];refine wpAny_bind (listUpdate_at eS rfl (wpAny_bind (wpAny_letGo ?_)) (by rw[List.size_toArray,<-l2,hl];exact dj h64) (Nat.zero_le _));generalize s.heap.update kS (Obj.mapSeq λ_=>(#[]:va))=h1 at IK I1 |-;have GU:=Heap.SameBut.update h1 D (Obj.mapSeq λ_=>(cZ us p).toArray);obtain⟨c2,Kc⟩:∃c2,(h1.update D (Obj.mapSeq λ_=>(cZ us p).toArray)).get? D=some (seqObj "list" (cZ us p).toArray c2):=⟨_,get?_update_seq IK λ_=>(cZ us p).toArray⟩;have I2:Inv X pins σ H {s with heap:=h1.update D (Obj.mapSeq λ_=>(cZ us p).toArray)}:=cm (s:={s with heap:=h1}) I1 fD GU;have I3:=uP (o:=.lst ((dq (kz.zip xs)).map (·.2))) I2 fD hD ⟨hlen,_,c2,SH,Kc⟩;refine wpAny_bind (seqEpoch_at IK rfl (wpAny_bind (listUpdate_at IK rfl ?_ (Nat.zero_le _) (Nat.le_succ_of_le SI))));rw[hf];simp only[bne_self_eq_false,Bool.false_eq_true,if_false];exact wpAny_pure (hP _ ⟨.ref D,_,I3,rfl,q D fD.1⟩)
 have P0:Pm xs.length (rk kz) (List.range xs.length).toArray:=nV (λi j hi hj=>inj i j (by omega) (by omega)) (Array.Perm.refl _);unfold ksk_end;dsimp only;rw[if_neg Bool.false_ne_true];simp only[Bool.false_eq_true,if_false]
 by_cases h2:us.toArray.size<2
 ·have small:xs.length<2:=by rw[l1];simpa using h2
  rw[if_pos h2,if_pos h2];refine wpAny_bind (wpAny_pure ?_);rw[StateT.run_pure];refine wpAny_bind (wpAny_pure ?_);refine fin (List.range xs.length).toArray P0 (λi j HR hj=>by omega) _ ?_ rfl;show(ks.toArray.zip us.toArray).map (·.2)=_;rw[xQ (by omega),l1,oJ]
 ·have big:2<=us.length:=by simpa using h2
  rw[if_neg h2,if_neg h2];obtain⟨κ,HB,Lr⟩:=kn (A:=A) I hA hk Ls nd (by omega);refine wpAny_bind (wpAny_mono (HB (λκ' s0=>(kas_sort us.length).kasWp (kas_ask X.prog X.w A κ' ks) (λp s'=>s'=s/\Pm us.length (rk kz) p/\Up (rk kz) p us.length) s0) (rA (n:=us.length) (r:=rk kz) (λi j hi hj=>inj i j (by omega) (by omega)) (λi j C hi hj=>Lr i j C (by omega) (by omega)) (by omega) λp pm up=>⟨rfl,pm,up⟩)) (λκ' s0 hw=>?_) λ_ _ x=>x.elim);refine wpAny_bind (wpAny_mono (kat_run (κ:=κ') (Q:=λGG s'=>∃p:Array Nat,arrOf GG=p.map (kas_item (ks.toArray.zip us.toArray))/\failedOf GG=none/\s'=s/\Pm us.length (rk kz) p/\Up (rk kz) p us.length) (by omega) big (by omega) (λp' GG s' _ a2 a3 a4=>⟨p',a2,a3,a4⟩) hw) ?_ λ_ _ e=>e);rintro⟨⟨⟩,GG⟩ s' ⟨p,Nn,hf,rfl,pm,up⟩;exact fin p (by rw[l1];exact pm) (by rw[l1];exact up) GG (kat_snds (by omega) Nn) hf
theorem vt {α:Type}{l:List α}{x:α}(h:l[j]?=some x):l.drop j=x::l.drop (j+1):=by
 obtain⟨hj,e⟩:=List.getElem?_eq_some_iff.mp h;rw[List.drop_eq_getElem_cons hj,e]
theorem lI {D:Addr}{P:PySem.Fin->Shared->Prop}(F:Ef X.prog X.w X.K X.mg X.base (aO X.prog X.w) k f fd ps sp)(hr:Fq k A)(hE:∀pins' H s,Inv X pins' σ H s->As X.prog X.w X.K X.mg X.base A X.stack s H)(hb:az X.K fd ps [])
 (hD:X.s₀.heap.objs.size<=D)(fD:cq X pins H D)(I:Inv X pins σ H s)(eD:s.heap.get? D=some (seqObj "list" us.toArray n))(rx:aR xs us)(h64:xs.length<64)(h:mr sp xs H (ku X xs Q))
 (hP:∀s',EP X pins σ Q (.ref D) s'->P (.done (.ret .none)) s'):wpAny (model X.prog X.w) A (ksk_tree D (.ref f) false) P E s:=by
 have l1:=rx.length
 have ZA:us.toArray.size<=sizeLine:=by rw[List.size_toArray,<-l1];exact dj h64
 obtain⟨e1,IK⟩:∃e1,(s.heap.update D (Obj.mapSeq λ_=>(#[]:va))).get? D=some (seqObj "list" #[] e1):=⟨_,get?_update_seq eD λ_=>#[]⟩;have I1:Inv X pins σ H {s with heap:=s.heap.update D (Obj.mapSeq λ_=>(#[]:va))}:=cm I fD (Heap.SameBut.update _ _ _);unfold ksk_tree;refine wpAny_bind (listItems_at eD rfl (wpAny_bind (listUpdate_at eD rfl (wpAny_bind (seqEpoch_at IK rfl (wpAny_bind (wpAny_newTuple ?_ (by show us.length<=_;rw[<-l1];exact dj h64))))) ZA (Nat.zero_le _))));refine wpAny_bind (wpAny_newList (wpAny_holding ?_) (Nat.zero_le _));generalize s.heap.update D (Obj.mapSeq λ_=>(#[]:va))=h1 at IK I1 |-;dsimp only;have I2:Inv X pins σ H {s with heap:=h1.push (seqObj "tuple" us.toArray 0)}:=I1.kept (t':=s.toks) λb o q=>Heap.get?_push_of_some _ q;have Lu:(h1.push (seqObj "tuple" us.toArray 0)).get? D=some (seqObj "list" #[] e1):=Heap.get?_push_of_some _ IK;show wpAny (model X.prog X.w) A (ksk_rest D (.ref f) false us.toArray e1 (.ref (h1.push (seqObj "tuple" us.toArray 0)).objs.size)) P E {s with heap:=(h1.push (seqObj "tuple" us.toArray 0)).push (seqObj "list" #[] 0)};generalize h1.push (seqObj "tuple" us.toArray 0)=h2 at I2 Lu |-;have ne:h2.objs.size≠D:=Nat.ne_of_gt (Heap.lt_size Lu);have SJ:cq X pins H h2.objs.size:=I2.aaK (Nat.le_refl _) (I2.hok.fresh (Nat.le_refl _));have I3:Inv X pins σ H {s with heap:=h2.push (seqObj "list" #[] 0)}:=I2.kept (t':=s.toks) λb o q=>Heap.get?_push_of_some _ q;have ZC:(h2.push (seqObj "list" #[] 0)).get? D=some (seqObj "list" #[] e1):=Heap.get?_push_of_some _ Lu;have Xb:(h2.push (seqObj "list" #[] 0)).get? h2.objs.size=some (seqObj "list" ([]:xF).toArray 0):=Heap.get?_push_size _ rfl;have ZD:∀{H':Hp},H' D=none->cq X pins H' D:=λz=>nh fD z;have SK:∀{H':Hp},H' h2.objs.size=none->cq X pins H' h2.objs.size:=λz=>nh SJ z;generalize h2.objs.size=kS at ne SJ Xb SK |-;unfold ksk_rest;refine wpAny_bind (wpAny_rule ?_);rw[List.forIn_toArray]
 let II:Nat->Shared->Prop:=λj s'=>∃(H':Hp)(c:Nat)(kV:List V)(ks:xF),Inv X (pins++[(D,seqObj "list" #[] e1)]) σ H' s'/\s'.heap.get? kS=some (seqObj "list" ks.toArray c)/\H' kS=none/\aR kV ks/\kV.length=j/\mr sp (xs.drop j) H' λk2 H2=>ku X xs Q (kV++k2) H2
 have I4:Inv X (pins++[(D,seqObj "list" #[] e1)]) σ H {s with heap:=h2.push (seqObj "list" #[] 0)}:=sx I3 fD ZC kE;refine wpAny_bind (wpAny_mono (ksk_fold (E:=E) (Q:=λ_ s'=>II us.length s') II us 0 {s with heap:=h2.push (seqObj "list" #[] 0)} ⟨H,0,[],[],I4,Xb,SJ.1,.nil,rfl,by simpa using h⟩ (λj u s' hu hI=>?_) λs' hd=>by simpa using hd) (λ_ s' hI=>?_) λ_ _ e=>e)
 ·rw[Nat.zero_add] at hI |-;obtain⟨H',c,kV,ks,J,eS,nS,Ls,hl,t⟩:=hI;have hj:j<us.length:=(List.getElem?_eq_some_iff.mp hu).1;obtain⟨x,hx⟩:∃x,xs[j]?=some x:=⟨xs[j]'(by omega),by simp[show j<xs.length by omega]⟩;obtain⟨u',Xc,ZE⟩:=rx.get hx;rw[hu] at Xc
  cases Xc
  rw[vt hx] at t;have Xd:cq X (pins++[(D,seqObj "list" #[] e1)]) H' kS:=xP (SK nS) (Ne.symm ne);have J2:=sx J Xd eS kE;refine wpAny_bind (wpAny_attempt (wpAny_mono (u9 F hr (hE _) hb J2 ZE t) (λkv s2 hk=>?_) λ_ _ z=>z.elim));obtain⟨v,H2,J3,rv,t2⟩:=hk;obtain⟨Xe,Xf⟩:=wC J3;have J4:=lM J3;have ZF:cq X (pins++[(D,seqObj "list" #[] e1)]) H2 kS:=nh Xd Xf
  have ea:ks.toArray.push kv=(ks++[kv]).toArray:=by simp
  obtain⟨c2,Kc⟩:∃c2,(s2.heap.update kS (Obj.mapSeq (·.push kv))).get? kS=some (seqObj "list" (ks++[kv]).toArray c2):=⟨_,by rw[<-ea];exact get?_update_seq Xe (·.push kv)⟩;have lk:=Ls.length;refine wpAny_bind (listUpdate_at Xe rfl ?_ (by rw[List.size_toArray];exact dj (by omega)) (Nat.le_trans (Nat.le_of_eq (Array.size_push ..)) (by rw[List.size_toArray];exact Nat.succ_le_succ (dj (by omega)))));refine wpAny_pure ⟨rfl,H2,c2,kV++[v],ks++[kv],cm J4 ZF (Heap.SameBut.update _ _ _),Kc,Xf,Ls.append (.cons rv .nil),by simp[hl],?_⟩
  have e:∀k2:List V,kV++[v]++k2=kV++v::k2:=λk2=>by simp
  simp only[e];exact t2
 ·obtain⟨H',c,kV,ks,J,eS,nS,Ls,hl,t⟩:=hI;rw[<-l1,List.drop_length] at t
  have w:ku X xs Q kV H':=by
   have z:ku X xs Q (kV++[]) H':=t;rwa[List.append_nil] at z
  obtain⟨Ry,nD⟩:=wC J;refine wpAny_bind (listItems_at eS rfl ?_);exact tQ (by have:=hr.units;omega) hD (ZD nD) (SK nS) ne (lM J) Ry eS rx Ls (by omega) h64 w hP
theorem qp {l:Addr}(F:Ef X.prog X.w X.K X.mg X.base (aO X.prog X.w) k f fd ps sp)(hr:Fq (k+2) X.A)(hb:az X.K fd ps [])
 (I:Inv X pins σ H s)(hl:ba X.K H l xs)(h64:xs.length<64)(h:mr sp xs H (ku X xs Q)):wpAny (model X.prog X.w) X.A (call (.builtin "sorted") [.ref l] [(Str.ofString "key",.ref f)]) (EP X pins σ Q) E s:=by
 obtain⟨us,rx,pl,_⟩:=I.list hl;have l1:=rx.length;refine call_function_entry_kw kind_sorted plain_sorted entry_sorted (ksk_s1 _ _) ?_;unfold Builtin.«sorted»;refine wpAny_bind (m:=checkCount "sorted" 1 1 _) (wpAny_pure (wpAny_bind (collect_list pl.isList (wpAny_bind (wpAny_newList ?_ (dj (by omega)))) (dj (by omega)))))
 have sz:((s.heap.push (seqObj "list" #[] 0)).update s.heap.objs.size (Obj.mapSeq (·++us.toArray))).objs.size=s.heap.objs.size+1:=by rw[Heap.size_update];exact size_push' _ _
 have JF:(((s.heap.push (seqObj "list" #[] 0)).update s.heap.objs.size (Obj.mapSeq (·++us.toArray))).push (seqObj "list" us.toArray 0)).get? (s.heap.objs.size+1)=some (seqObj "list" us.toArray 0):=by
  rw[<-sz];exact Heap.get?_push_size _ rfl
 have old:∀b o,s.heap.get? b=some o->(((s.heap.push (seqObj "list" #[] 0)).update s.heap.objs.size (Obj.mapSeq (·++us.toArray))).push (seqObj "list" us.toArray 0)).get? b=some o:=λb o q=>by
  have lt:b<s.heap.objs.size:=Heap.lt_size q;refine Heap.get?_push_of_some _ ?_;rw[Heap.get?_update_ne _ _ _ _ (Nat.ne_of_lt lt)];exact Heap.get?_push_of_some _ q
 show wpAny _ _ _ _ _ {s with heap:=((s.heap.push (seqObj "list" #[] 0)).update s.heap.objs.size (Obj.mapSeq (·++us.toArray))).push (seqObj "list" us.toArray 0)};rw[sz];generalize ((s.heap.push (seqObj "list" #[] 0)).update s.heap.objs.size (Obj.mapSeq (·++us.toArray))).push (seqObj "list" us.toArray 0)=h5 at JF old |-;have I5:Inv X pins σ H {s with heap:=h5}:=I.kept (t':=s.toks) old;have fD:cq X pins H (s.heap.objs.size+1):=I.aaK (Nat.le_succ _) (I.hok.fresh (Nat.le_succ _));refine wpAny_bind (wpAny_holding (wpAny_call_entry_kw slot_list_sort ⟨_,JF,rfl⟩ entry_list_sort ?body (ksk_l1 _ _)))
 case body =>
  show wpAny (model X.prog X.w) X.A.in1.in1 (Builtin.«list.sort» ⟨[.ref (s.heap.objs.size+1)],[(Str.ofString "key",.ref f)]⟩) _ _ _;rw[ksk_t1];exact lI (A:=X.A.in1.in1) F hr.in1.in1 (λpins' H' s' J=>J.abO.in1.in1) hb (Nat.le_trans I.sz (Nat.le_succ _)) fD I5 JF rx h64 h λs' q=>⟨_,rfl,wpAny_pure ⟨_,rfl,q⟩⟩
end
noncomputable def Az (X:Cx)(sp:Sp)(ta:TE):TE:=λσ H Q=>aQ ta tW σ H λvs H1=>∃l xs,vs=[.ref l]/\ba X.K H1 l xs/\xs.length<64/\mr sp xs H1 (ku X xs Q)
section
variable {X:Cx}{k:Nat}{f:Addr}{fd:vH}{ps:nO}{sp:Sp}{e:Expr}{ta:TE}{x:Str}{p p2 kpos pos:Pos}
theorem xI (F:Ef X.prog X.w X.K X.mg X.base (aO X.prog X.w) k f fd ps sp)(hr:Fq (k+2) X.A)(hb:az X.K fd ps [])(hg:Gl X "sorted")(hm:X.mg "sorted"=none)(ZG:Gl X x)(ZH:X.mg x=some (.ref f))(ha:PE X e ta)(hs:dN e=false:=by rfl)(hd:(x==("__debug__":Str))=false:=by decide):
 PE X (.Call (.Name "sorted" p) [e] [⟨some "key",.Name x p2,kpos⟩] pos) (Az X sp ta):=by
 intro pins s σ H Q I h;refine wpAny_Call_Name_kw (dO I hg hm (by rfl) ?_ (by decide) (by decide));refine callWith_builtin_kwB (by rw[aV hs];rfl) rfl (evalArgs_kw2 rfl ?_ (aV hs));refine bA (aj ha ag hs pos pins s σ H _ I h) λus s1 z'=>?_;obtain⟨vs,H1,I1,r1,⟨l,xs,hv,hl,h64,ht⟩⟩:=z';subst hv
 cases r1 with
 |cons ra rb =>
  cases rb
  cases ra
  refine kwAll_cons (fj I1 ZG ZH (kwAll_nil ?_) hd);exact qp F hr hb I1 hl h64 ht
end
end Srt
namespace K26
open PySem L2 PySem.W Nm Srt
variable {n:Nat}{p:Int}
theorem wJ {t b:Int}(hp:FP p)(h:B n t)(hb:b≠0)(hn:7<=n):B n (fQ p t b):=by
 unfold fQ
 by_cases z:p=0
 ·rw[if_pos z];exact h.le (rK hb)
 ·rw[if_neg z];obtain⟨_,p2,SA⟩:=hp.two z;have h0:=Int.emod_nonneg t (b:=p) (by omega);have h1:=Int.emod_lt_of_pos t (b:=p) (by omega)
  have:B 7 (t%p):=by
   show(t%p).natAbs<2^7;omega
  exact this.mono hn
theorem wG {n:Nat}{t b:Int}(h:B n b)(hb:b≠0)(hn:1<=n):B n (fO p t b):=by
 unfold fO
 by_cases z:p=0
 ·rw[if_pos z];exact h.le (sJ hb)
 ·rw[if_neg z];exact(show B 1 (1:Int) from(by show(1:Int).natAbs<2^1;decide)).mono hn
noncomputable abbrev Tm:=List Int×Int×Int
noncomputable def dY (p:Int)(a b:Int×Int):Int×Int:=(fQ p (jg a.1 a.2 b.1 b.2) (a.2*b.2),fO p (jg a.1 a.2 b.1 b.2) (a.2*b.2))
noncomputable def Gn (p:Int)(n:Nat)(a:Int×Int):Prop:=Num p a.1 a.2/\B n a.1/\B n a.2
theorem Gn.ne {a:Int×Int}(h:Gn p n a):a.2≠0:=by have:=h.1.pos;omega
theorem mi {m:Nat}{a b:Int×Int}(hp:FP p)(ha:Gn p n a)(hb:Gn p m b)(h7:7<=n+m+1):Gn p (n+m+1) (dY p a b):=by
 have nz:a.2*b.2≠0:=Int.mul_ne_zero ha.ne hb.ne;refine⟨Num.set hp.nn nz,wJ hp ?_ nz h7,(wG (n:=n+m) (ha.2.2.mul hb.2.2) nz (by omega)).mono (by omega)⟩;have h1:B (n+m) (a.1*b.2):=ha.2.1.mul hb.2.2;have h2:B (n+m) (b.1*a.2):=(hb.2.1.mul ha.2.2).mono (by omega);exact h1.add h2
theorem uD {b:Int×Int}(hp:FP p)(hb:Gn p n b):dY p (0,1) b=b:=by
 obtain⟨h1,h2⟩:=hb.1.self hp.nn;unfold dY jg
 have e1:(0:Int)*b.2+b.1*1=b.1:=by omega
 have e2:(1:Int)*b.2=b.2:=by omega
 rw[e1,e2,h1,h2]
noncomputable def fR (p:Int)(d:List Tm)(t:Tm):List Tm:=if d.any (λe=>decide (e.1=t.1))=true then d.map (λe=>if e.1=t.1 then(e.1,dY p e.2 t.2) else e) else d++[t]
noncomputable def aY (p:Int)(ts:List Tm):List Tm:=ts.foldl (fR p) []
noncomputable def my (p:Int)(n:Nat)(d:List Tm):Prop:=∀e∈d,Gn p n e.2
variable {d:List Tm}
theorem uu {m:Nat}{t:Tm}(hp:FP p)(hd:my p n d)(ht:Gn p m t.2)(h7:7<=n+m+1):my p (n+m+1) (fR p d t):=by
 have up:∀e∈d,Gn p (n+m+1) e.2:=λe he=>⟨(hd e he).1,(hd e he).2.1.mono (by omega),(hd e he).2.2.mono (by omega)⟩;unfold fR
 split
 ·intro e he;obtain⟨e0,h0,rfl⟩:=List.mem_map.mp he
  by_cases q:e0.1=t.1
  ·rw[if_pos q];exact mi hp (hd e0 h0) ht h7
  ·rw[if_neg q];exact up e0 h0
 ·intro e he
  rcases List.mem_append.mp he with he|he
  ·exact up e he
  ·have:e=t:=by simpa using he
   subst this;exact⟨ht.1,ht.2.1.mono (by omega),ht.2.2.mono (by omega)⟩
theorem tR {t:Tm}(hd:(d.map (·.1)).Nodup):((fR p d t).map (·.1)).Nodup:=by
 unfold fR
 split
 ·rw[List.map_map]
  have:((λe:Tm=>e.1) ∘ λe=>if e.1=t.1 then(e.1,dY p e.2 t.2) else e)=λe=>e.1:=by
   funext e
   show(if e.1=t.1 then(e.1,dY p e.2 t.2) else e).1=e.1
   split <;> rfl
  rw[this];exact hd
 ·rename_i q
  rw[List.map_append];refine List.nodup_append.mpr ⟨hd,by simp,λa ha b hb z=>?_⟩
  have:b=t.1:=by simpa using hb
  subst this;subst z;obtain⟨e,he,e1⟩:=List.mem_map.mp ha;exact q (List.any_eq_true.mpr ⟨e,he,by simpa using e1⟩)
theorem wK {t:Tm}:(fR p d t).length<=d.length+1:=by
 unfold fR
 split <;> simp
noncomputable def fJ (t:Tm):Ky:=(t.1.length,t.1)
noncomputable def fP (d:List Tm):List Tm:=(dq ((d.filter λe=>e.2.1 != 0).map λe=>(fJ e,e))).map (·.2)
theorem iW (p:Int)(ts:List Tm)(t:Tm):aY p (ts++[t])=fR p (aY p ts) t:=by
 unfold aY;rw[List.foldl_append];rfl
theorem c6 {m:Nat}(hp:FP p):∀(n:Nat)(ts:List Tm),ts.length=n->(∀t∈ts,Gn p m t.2)->my p ((m+1)*n+7) (aY p ts)/\((aY p ts).map (·.1)).Nodup/\(aY p ts).length<=n
 |0,ts,hn,_=>by
  have:ts=[]:=List.length_eq_zero_iff.mp hn;subst this;refine And.intro (λe he=>?_) (And.intro List.nodup_nil (Nat.le_refl 0));exact absurd (show e∈([]:List Tm) from he) (by simp)
 |n+1,ts,hn,h=>by
  obtain⟨JO,t,rfl⟩:∃JO t,ts=JO++[t]:=by
   have Gw:ts≠[]:=by intro z;rw[z] at hn;cases hn
   exact⟨ts.dropLast,ts.getLast Gw,(List.dropLast_concat_getLast Gw).symm⟩
  have hl:JO.length=n:=by simpa using hn
  obtain⟨g1,g2,g3⟩:=c6 hp n JO hl λt ht=>h t (List.mem_append_left _ ht);rw[iW];have gt:=h t (List.mem_append_right _ (by simp));have e2:(m+1)*(n+1)=(m+1)*n+(m+1):=Nat.mul_succ _ _;refine⟨λe he=>?_,tR g2,Nat.le_trans wK (by omega)⟩;have:=uu hp g1 gt (by omega) e he;exact⟨this.1,this.2.1.mono (by omega),this.2.2.mono (by omega)⟩
end K26
namespace Nm
end Nm
namespace K26
open PySem L2 PySem.W Nm Srt
section
variable {p:Int}{R:Type} [Lean.Grind.CommRing R]{v:Int×Int->R}
theorem dI (d:List Tm):(fP d).Perm (d.filter λe=>e.2.1 != 0):=by
 unfold fP;have h:=(cW ((d.filter λe=>e.2.1 != 0).map λe=>(fJ e,e))).map (·.2);rw[List.map_map] at h;have e:((λx:Ky×Tm=>x.2) ∘ λe=>(fJ e,e))=id:=rfl;rw[e,List.map_id] at h;exact h
end
end K26
namespace L2
open PySem PySem.Spec PyProof.Rows PySem.W
theorem oC:∀{ns:List Int}{us:xF},aR (ns.map V.int) us->IntsAre us ns
 |[],us,r=>by cases r;exact .nil
 |n::ns,us,r=>by
  rw[List.map_cons] at r
  cases r with
  |cons h t =>
   obtain⟨k,rfl⟩:=(show ∃k,_=Value.int n k from h);exact .cons n k (oC t)
end L2
namespace St
open PySem
open PyProof.Rows
end St
namespace L2
open PySem PySem.Spec PyProof.Rows PySem.W
end L2
namespace K26
open PySem L2 PySem.W Nm Srt
noncomputable abbrev tg (p:Int)(ts:List Tm):List Tm:=fP (aY p ts)
noncomputable abbrev jn (ks:List Int):List Key:=ks.map Sum.inl
theorem iZ (ks:List Int):(jn ks).map kV=ks.map V.int:=by unfold jn;rw[List.map_map];rfl
theorem ng {a b:List Int}(h:jn a=jn b):a=b:=by
 have e:(jn a).map kV=(jn b).map kV:=by rw[h]
 rw[iZ,iZ] at e
 have inj:∀{x y:List Int},x.map V.int=y.map V.int->x=y:=by
  intro x
  induction x with
  |nil=>intro y h;cases y with
   |nil=>rfl
   |cons c y=>simp at h
  |cons b x ih=>intro y h;cases y with
   |nil=>simp at h
   |cons c y =>
    rw[List.map_cons,List.map_cons] at h
    injection h with h1 h2
    injection h1 with h1
    rw[h1,ih h2]
 exact inj e
noncomputable def Bt (H:Hp)(y:V)(t:Tm):Prop:=∃a pr nu,y=.ref a/\H a=some (.tup [.ref pr,.ref nu])/\H pr=some (.tup (t.1.map V.int))/\H nu=some (cA t.2.1 t.2.2)
noncomputable abbrev bZ (H:Hp):List V->List Tm->Prop:=Paired (Bt H)
noncomputable abbrev DR (H:Hp):List (List Key×V)->List Tm->Prop:=Paired λkv e=>kv.1=jn e.1/\∃a,kv.2=.ref a/\H a=some (cA e.2.1 e.2.2)
noncomputable def aG (H H':Hp):Prop:=∀b xs,H b=some (.tup xs)->H' b=some (.tup xs)
variable {H H':Hp}
theorem aG.of (s:ax H H'):aG H H':=λb xs e=>s b _ e
theorem aG.trans {H1 H2:Hp}(a:aG H H1)(b:aG H1 H2):aG H H2:=λc xs e=>b c xs (a c xs e)
theorem aG.upd {d:Addr}{o:HO}(h:∀xs,H d≠some (.tup xs)):aG H (upd H d o):=λb xs e=>by
 have:b≠d:=λz=>h xs (z▸e);rw[ai this];exact e
variable {y:V}
theorem Bt.keep {t:Tm}(h:Bt H y t)(k:aG H H'):Bt H' y t:=let⟨a,pr,nu,e,h1,h2,h3⟩:=h;⟨a,pr,nu,e,k _ _ h1,k _ _ h2,k _ _ h3⟩
variable {ts:List Tm}
theorem bZ.keep {ys:List V}(h:bZ H ys ts)(k:aG H H'):bZ H' ys ts:=Paired.aa0 h λ_ _ z=>z.keep k
variable {FQ:List (List Key×V)}{d:List Tm}
theorem DR.keep (h:DR H FQ d)(k:aG H H'):DR H' FQ d:=Paired.aa0 h λ_ _ z=>⟨z.1,let⟨a,e,h⟩:=z.2;⟨a,e,k _ _ h⟩⟩
theorem qU (k:List Int):∀{FQ:List (List Key×V)}{d:List Tm},DR H FQ d->d.any (λe=>decide (e.1=k))=false->jc FQ (jn k)=none
 |_,_,.nil,_=>rfl
 |_,_,.cons (a:=kv) (b:=e) h t,q=>by
  rw[List.any_cons,Bool.or_eq_false_iff] at q
  have ne:¬kv.1=jn k:=λz=>by
   have:e.1=k:=ng (h.1.symm.trans z);simp[this] at q
  rw[fY ne];exact qU k t q.2
theorem j5 (k:List Int):∀{FQ:List (List Key×V)}{d:List Tm},DR H FQ d->d.any (λe=>decide (e.1=k))=true->∃e∈d,e.1=k/\∃a,jc FQ (jn k)=some (.ref a)/\H a=some (cA e.2.1 e.2.2)
 |_,_,.nil,q=>by simp at q
 |_,_,.cons (a:=kv) (b:=e) h t,q=>by
  by_cases z:e.1=k
  ·obtain⟨a,e1,ha⟩:=h.2;refine⟨e,List.mem_cons_self,z,a,?_,ha⟩;rw[iK (by rw[h.1,z]),e1]
  ·have ne:¬kv.1=jn k:=λw=>z (ng (h.1.symm.trans w));rw[List.any_cons,decide_eq_false z,Bool.false_or] at q;obtain⟨e',m,z',a,h1,h2⟩:=j5 k t q;exact⟨e',List.mem_cons_of_mem _ m,z',a,by rw[fY ne];exact h1,h2⟩
theorem AI (k:List Int)(h:DR H FQ d):(FQ.any λkv=>decide (kv.1=jn k))=d.any λe=>decide (e.1=k):=by
 rw[kc]
 cases q:d.any λe=>decide (e.1=k) with
 |false=>rw[qU k h q];rfl
 |true =>
  obtain⟨_,_,_,a,e,_⟩:=j5 k h q;rw[e];rfl
variable {p:Int}
theorem u5 {t:Tm}{a:Addr}(h:DR H FQ d)(nd:(d.map (·.1)).Nodup)
 (Jx:d.any (λe=>decide (e.1=t.1))=false->H a=some (cA t.2.1 t.2.2))(HP:∀e∈d,e.1=t.1->H a=some (cA (dY p e.2 t.2).1 (dY p e.2 t.2).2)):DR H (dm FQ (jn t.1) (.ref a)) (fR p d t):=by
 unfold dm fR;rw[AI t.1 h]
 by_cases q:d.any (λe=>decide (e.1=t.1))=true
 ·rw[if_pos q,if_pos q]
  have go:∀{FQ:List (List Key×V)}{d:List Tm},DR H FQ d->(∀e∈d,e.1=t.1->H a=some (cA (dY p e.2 t.2).1 (dY p e.2 t.2).2)) →
   DR H (FQ.map λkv=>if kv.1=jn t.1 then(kv.1,V.ref a) else kv) (d.map λe=>if e.1=t.1 then(e.1,dY p e.2 t.2) else e):=by
   intro FQ d h
   induction h with
   |nil=>intro _;exact .nil
   |@cons kv e ks es h0 ht ih =>
    intro hy;rw[List.map_cons,List.map_cons];refine .cons ?_ (ih λe' m=>hy e' (List.mem_cons_of_mem _ m))
    by_cases z:e.1=t.1
    ·rw[if_pos z,if_pos (by rw[h0.1,z])];exact⟨h0.1,a,rfl,hy e List.mem_cons_self z⟩
    ·rw[if_neg z,if_neg (λw=>z (ng (h0.1.symm.trans w)))];exact h0
  exact go h HP
 ·have q':d.any (λe=>decide (e.1=t.1))=false:=Bool.eq_false_iff.mpr q;rw[if_neg q,if_neg q];exact Paired.snoc h ⟨rfl,a,rfl,Jx q'⟩
noncomputable abbrev wF:Stmt:=(aJ 50)
structure BN (p:Int)(ts:List Tm):Prop where
 len:ts.length<4000
 num:∀t∈ts,Gn p 4000 t.2
 steps:∀i,i<=ts.length->my p 4000 (aY p (ts.take i))
 few:(aY p ts).length<64
theorem BN.of {m:Nat}(hp:FP p)(h64:ts.length<64)(hG:∀t∈ts,Gn p m t.2)(hm:(m+1)*ts.length+7<=4000)(Np:m<=4000):BN p ts:=by
 refine⟨by omega,λt ht=>⟨(hG t ht).1,(hG t ht).2.1.mono Np,(hG t ht).2.2.mono Np⟩,λi hi=>?_,?_⟩
 ·obtain⟨g1,g2,g3⟩:=c6 (m:=m) hp i (ts.take i) (by simp;omega) λt ht=>hG t (List.mem_of_mem_take ht);intro e he;have b:=g1 e he;have le:(m+1)*i+7<=4000:=Nat.le_trans (Nat.add_le_add_right (Nat.mul_le_mul_left _ hi) _) hm;exact⟨b.1,b.2.1.mono le,b.2.2.mono le⟩
 ·exact Nat.lt_of_le_of_lt (c6 (m:=m) hp ts.length ts rfl hG).2.2 h64
noncomputable def qv (C:Addr):Sp:=λvs H Q _=>∃(s dx l:Addr)(p:Int)(ys:List V)(ts:List Tm),vs=[.ref s,.ref l]/\H s=some (.ins C dx (dR p))/\FP p/\H l=some (.lst ys)/\bZ H ys ts/\BN p ts /\
 ∀H' D zs,ax H H'->H D=none->H' D=some (.lst zs)->bZ H' zs (fP (aY p ts))->Q (.ref D) H'
theorem none_of {a:Addr}(s:ax H H')(h:H' a=none):H a=none:=by
 cases e:H a with
 |none=>rfl
 |some o=>rw[s _ _ e] at h;cases h
theorem iU:yd ["field","terms","totals","product","number","kept"] qo (ak wF):=c9 (by decide +kernel)
theorem mw {α β:Type}{R:α->β->Prop}{k:Ky}{x:α}{y:β}(h:R x y):∀{l:List (Ky×α)}{m:List (Ky×β)},Paired (λa b=>a.1=b.1/\R a.2 b.2) l m->Paired (λa b=>a.1=b.1/\R a.2 b.2) (lz k x l) (lz k y m)
 |_,_,.nil=>.cons ⟨rfl,h⟩ .nil
 |_,_,.cons (a:=(j,u)) (b:=(j',v)) (l₁:=r) (l₂:=r') h0 t=>by
  obtain⟨e,h1⟩:=h0;have e:j=j':=e;subst e;show Paired _ (if lu k j=true then(k,x):: (j,u):: r else(j,u):: lz k x r) (if lu k j=true then(k,y):: (j,v):: r' else(j,v):: lz k y r')
  by_cases z:lu k j=true
  ·rw[if_pos z,if_pos z];exact .cons ⟨rfl,h⟩ (.cons ⟨rfl,h1⟩ t)
  ·rw[if_neg z,if_neg z];exact .cons ⟨rfl,h1⟩ (mw h t)
theorem gZ {α β:Type}{R:α->β->Prop}:∀{l:List (Ky×α)}{m:List (Ky×β)},Paired (λa b=>a.1=b.1/\R a.2 b.2) l m->Paired (λa b=>a.1=b.1/\R a.2 b.2) (dq l) (dq m)
 |_,_,.nil=>.nil
 |_,_,.cons (a:=(j,u)) (b:=(j',v)) (l₁:=r) (l₂:=r') h0 t=>by
  obtain⟨e,h1⟩:=h0;have e:j=j':=e;subst e;exact mw h1 (gZ t)
theorem kx {α β:Type}{R:α->β->Prop}:∀{l:List (Ky×α)}{m:List (Ky×β)},Paired (λa b=>a.1=b.1/\R a.2 b.2) l m->Paired R (l.map (·.2)) (m.map (·.2))
 |_,_,.nil=>.nil
 |_,_,.cons h t=>.cons h.2 (kx t)
theorem ka {R:V->Tm->Prop}:∀{xs:List V}{es:List Tm},Paired R xs es->Paired (λa b=>a.1=b.1/\R a.2 b.2) ((es.map fJ).zip xs) (es.map λe=>(fJ e,e))
 |_,_,.nil=>.nil
 |_,_,.cons h t=>.cons ⟨rfl,h⟩ (ka t)
theorem mJ:∀{xs:List V}{es:List Tm}{H:Hp}{R:List V->Hp->Prop},bZ H xs es →
 (∀ks H2,ax H H2->Paired (λx e=>∃a b,x=.ref a/\H2 a=some (.tup [.int e.1.length,.ref b])/\H2 b=some (.tup (e.1.map V.int))) ks es->R ks H2)->mr lJ xs H R
 |_,_,H,R,.nil,h=>h [] H (ax.refl _) .nil
 |_,_,H,R,.cons (b:=e) h0 t,h=>by
  obtain⟨a,pr,nu,rfl,ha,GV,HY⟩:=h0;refine⟨a,pr,.ref nu,_,rfl,ha,GV,λtt ZI=>?_⟩;rw[List.length_map];have sU:ax H (upd H tt (.tup [.int e.1.length,.ref pr])):=aq ZI;refine mJ (bZ.keep t (aG.of sU)) λks H2 s2 hk=>h _ H2 (λb u z=>s2 _ _ (sU _ _ z)) (.cons ⟨tt,pr,rfl,s2 _ _ ae,s2 _ _ (sU _ _ GV)⟩ hk)
theorem nY {K:Frag}:∀{ks:List V}{es:List Tm},Paired (λx e=>∃a b,x=.ref a/\H a=some (.tup [.int e.1.length,.ref b])/\H b=some (.tup (e.1.map V.int))) ks es->dk K H ks (es.map fJ)
 |_,_,.nil=>True.intro
 |_,_,.cons h t=>by
  obtain⟨a,b,rfl,h1,h2⟩:=h;exact⟨⟨a,b,[],rfl,bx.of h1,bx.of h2⟩,nY t⟩
theorem qV (h:(d.map (·.1)).Nodup)(f:Tm->Bool):((d.filter f).map fJ).Nodup:=by
 have h1:((d.filter f).map (·.1)).Nodup:=h.sublist (List.filter_sublist.map _)
 have e:(d.filter f).map fJ=((d.filter f).map (·.1)).map λk=>((k.length:Int),k):=by rw[List.map_map];rfl
 rw[e];unfold List.Nodup at h1 |-;rw[List.pairwise_map];exact h1.imp λh z=>h (Prod.mk.inj z).2
theorem gT (h:(d.map (·.1)).Nodup):∀{e e':Tm},e∈d->e'∈d->e.1=e'.1->e=e':=by
 induction d with
 |nil=>intro e e' h1;exact nomatch h1
 |cons a d ih =>
  rw[List.map_cons,List.nodup_cons] at h;intro e e' h1 h2 z
  rcases List.mem_cons.mp h1 with h3|h3
  ·rcases List.mem_cons.mp h2 with h4|h4
   ·rw[h3,h4]
   ·exact absurd (by rw[<-h3,z];exact List.mem_map_of_mem (f:=(·.1)) h4) h.1
  ·rcases List.mem_cons.mp h2 with h4|h4
   ·exact absurd (by rw[<-h4,<-z];exact List.mem_map_of_mem (f:=(·.1)) h3) h.1
   ·exact ih h.2 h3 h4 z
variable {P:zO}{w:World}{K:PySem.W.Frag}{mg:yN}{base:Heap}
variable {f:Addr}{fd:vH}
theorem yu {fp fo C:Addr}{IJ Xg:vH}(F:xR K "gathered" "gathered" wF f fd)(c:oO K mg C)(Gq:mg "sorted"=none)
 (ZJ:Ef P w K mg base (aO P w) 4 fp IJ wk (zm C jg))(ZK:L2.az K IJ wk [])(ZL:L2.Meth K C "plus" fp)
 (ZM:Ef P w K mg base (aO P w) 1 fo Xg ["term"] lJ)(ZN:L2.az K Xg ["term"] [])(ZO:mg "place_of_term"=some (.ref fo)):Ef P w K mg base (aO P w) 5 f fd qo (qv C):=by
 refine F.okN iU (λvs H Q E h=>?_) (λFV A outer s H vs Q E hr h=>?_)
 ·obtain⟨s,dx,l,p,ys,ts,rfl,_⟩:=h;rfl
 ·obtain⟨s0,dx,l,p,ys,ts,rfl,hs,hp,hl,Kn,G,q⟩:=h;have h64:=G.len;have hG:=G.num;have Ii:Fq 4 _:=hr.mono (by decide);have SM:Fq 3 _:=hr.mono (by decide);have hu:=(hr.units:_+64<cLine)
  replace hu:=Nat.lt_of_le_of_lt (Nat.add_le_add_left (by decide:1<=64) _) hu
  refine⟨_,(ao (@aM _ _ 2 _ _ _ _ iU.nd rfl (Or.inl rfl) jL rfl (Or.inl rfl))
   (ao (dJ PassesOwn.never rfl (cE (pv 1)) (cf rfl (aC (aA (i:=3) iU.nd rfl (Or.inl rfl)) (aC (aA (i:=4) iU.nd rfl (Or.inl rfl)) bH)))
   (ao (bc (vB (adI hu (pv 3) (pv 2))) (au (@aM _ _ 4 _ _ _ _ iU.nd rfl (Or.inl rfl) (m6 (pv 0) c.cl ZL ZJ Ii ZK .nil af (@aj _ _ _ _ _ (nG hu (pv 2) (pv 3) (λ_ _=>rfl)) (@aj _ _ _ _ _ (pv 4) ag rfl) rfl)) rfl (Or.inl rfl))) aF)
   (au (qY hu (pv 2) (pv 3) (pv 4) (by rfl)))))
   (ao (iH (i:=5) (g:=gD K 2 (bX (aZ 0) (bX (aZ 1) DH))) (N:=["product","number"]) (nl:=2) (js:=[]) (osc:=ak wF) ⟨rfl,rfl,by decide +kernel,by decide +kernel,by decide +kernel,rfl,.nil,by decide +kernel⟩ rfl iU.nd rfl (Or.inl rfl)
    (iy (pv 2))
    (λC fp s H=>(cf (X:=bQ _ ["product","number"] _ C fp s H) rfl (aC (aA (X:=bQ _ ["product","number"] _ C fp s H) (i:=0) (by show(["product","number"]:nO).Nodup;decide +kernel) rfl (Or.inl rfl) (Or.inr rfl)) (aC (aA (X:=bQ _ ["product","number"] _ C fp s H) (i:=1) (by show(["product","number"]:nO).Nodup;decide +kernel) rfl (Or.inl rfl) (Or.inr rfl)) bH))))
    (λC fp s H=>(fA (@aI _ _ _ _ _ _ _ _ gI (@bo _ _ _ _ _ _ _ (show Ay _ (xE K) from bK) (pv 1) ah (λ_ _=>rfl)) ah (aK _))))
    (λC fp s H=>(@bO _ _ _ _ _ (@aj _ _ _ _ _ (pv 0) (@aj _ _ _ _ _ (pv 1) ag rfl) rfl))) (by rfl))
   (au (ay (xI ZM SM ZN (by rfl) Gq (by rfl) ZO (pv 5))))))),?_⟩
  have hlen:=Kn.length
  have gg:∀i,i<=ts.length->my p 4000 (aY p (ts.take i))/\((aY p (ts.take i)).map (·.1)).Nodup/\(aY p (ts.take i)).length<=i:=λi hi=>by
   obtain⟨_,g2,g3⟩:=c6 (m:=4000) hp i (ts.take i) (by simp;omega) λt ht=>hG t (List.mem_of_mem_take ht);exact⟨G.steps i hi,g2,g3⟩
  refine λdd HE=>?_;have s1:ax H (upd H dd (.dT [])):=aq HE;refine⟨_,rfl,l,rfl,⟨ys,ba.of (s1 _ _ hl)⟩,?_⟩
  refine⟨λi m σ' H'=>m=ts.length-i/\i<=ts.length/\ax H H'/\(∃FQ,H' dd=some (.dT FQ)/\DR H' FQ (aY p (ts.take i)))/\∃o3 o4,σ'=[some (.ref s0),some (.ref l),some (.ref dd),o3,o4,none],
   ⟨ts.length,by simp,Nat.zero_le _,s1,⟨[],ae,.nil⟩,none,none,rfl⟩,?_⟩
  rintro i m' σ' H' ⟨rfl,hi,sH,⟨FQ,hd,dr⟩,o3,o4,rfl⟩;have G6:=sH _ _ hl;have HX:=sH _ _ hs;obtain⟨gd,Jn,gl⟩:=gg i hi
  by_cases FY:i<ts.length
  ·have Nq:i<ys.length:=by omega
   refine .inr ⟨⟨ys,ys[i],ba.of G6,by simp[Nq]⟩,λσ' H'=>i+1<=ts.length/\ax H H'/\(∃FQ,H' dd=some (.dT FQ)/\DR H' FQ (aY p (ts.take (i+1))))/\∃o3 o4,σ'=[some (.ref s0),some (.ref l),some (.ref dd),o3,o4,none],?_,λy H2 hy=>?_⟩
   ·rintro σ' H' ⟨h1,h2,h3,h4⟩;exact⟨ts.length-(i+1),by omega,rfl,h1,h2,h3,h4⟩
   ·obtain⟨rfl,hy⟩:=hy;obtain⟨t,et,tr⟩:=cn Kn (hy ys (ba.of G6));obtain⟨a,pr,nu,rfl,ha,GV,HY⟩:=tr.keep (aG.of sH);have gt:=hG t (List.mem_of_getElem? et)
    have Hv:ts.take (i+1)=ts.take i++[t]:=by rw[List.take_add_one,et];rfl
    have HF:∀H3:Hp,aG H2 H3->H3 pr=some (.tup ((jn t.1).map kV)):=λH3 k=>by rw[iZ];exact k _ _ GV
    have fin:∀(H3:Hp)(an:Addr),ax H H3->aG H2 H3->H3 dd=some (.dT FQ)->((aY p (ts.take i)).any (λe=>decide (e.1=t.1))=false->H3 an=some (cA t.2.1 t.2.2)) →
     (∀e∈aY p (ts.take i),e.1=t.1->H3 an=some (cA (dY p e.2 t.2).1 (dY p e.2 t.2).2)) →
     ax H (upd H3 dd (.dT (dm FQ (jn t.1) (.ref an))))/\∃IL,(upd H3 dd (.dT (dm FQ (jn t.1) (.ref an)))) dd=some (.dT IL)/\DR (upd H3 dd (.dT (dm FQ (jn t.1) (.ref an)))) IL (aY p (ts.take (i+1))):=by
     intro H3 an s3 k3 h3 Jx HP;refine⟨λb u e=>by rw[ai (ar e HE)];exact s3 b u e,_,ae,?_⟩;rw[Hv,iW];exact(u5 (dr.keep k3) Jn Jx HP).keep (aG.upd λxs z=>by rw[h3] at z;cases z)
    have IM:FQ.length<sizeLine:=by
     rw[dr.length];exact Nat.lt_of_le_of_lt gl (Nat.lt_trans (Nat.lt_of_le_of_lt hi h64) (by decide))
    refine⟨a,_,rfl,bx.of ha,rfl,_,_,rfl,_,_,rfl,rfl,?_⟩;refine⟨_,rfl,_,rfl,dd,_,rfl,i7.t hd (HF _ λ_ _ e=>e),_,rfl,?_⟩
    cases hq:(aY p (ts.take i)).any (λe=>decide (e.1=t.1)) with
    |false =>
     rw[qU t.1 dr hq];refine bD ?_;refine⟨_,rfl,_,rfl,_,rfl,dd,_,rfl,oI.t hd (HF _ λ_ _ e=>e) IM,?_⟩
     obtain⟨f1,f2⟩:=fin H2 nu sH (λ_ _ e=>e) hd (λ_=>HY) λe he z=>by
      have:(aY p (ts.take i)).any (λe=>decide (e.1=t.1))=true:=List.any_eq_true.mpr ⟨e,he,by simpa using z⟩;rw[hq] at this;cases this
     exact⟨FY,f1,f2,_,_,rfl⟩
    |true =>
     obtain⟨e,he,ek,a0,hv,SN⟩:=j5 t.1 dr hq;rw[hv];refine aW ?_;have ge:=gd e he
     refine⟨_,rfl,s0,dx,_,rfl,HX,rfl,_,rfl,_,rfl,dd,_,rfl,(by rw[<-hv];exact i7.t hd (HF _ λ_ _ e=>e)),_,rfl,s0,dx,a0,nu,p,e.2.1,e.2.2,t.2.1,t.2.2,rfl,HX,hp,SN,HY,
      ge.2.1,ge.2.2,gt.2.1,gt.2.2,ge.ne,gt.ne,λa1 Jm=>?_⟩
     have sU:ax H2 (upd H2 a1 (cA (dY p e.2 t.2).1 (dY p e.2 t.2).2)):=aq Jm;refine⟨_,rfl,_,rfl,_,rfl,dd,_,rfl,oI.t (sU _ _ hd) (HF _ (aG.of sU)) IM,?_⟩
     obtain⟨f1,f2⟩:=fin _ a1 (λb u z=>sU _ _ (sH _ _ z)) (aG.of sU) (sU _ _ hd) (λz=>by rw[hq] at z;cases z) λe' Nr z=>by
      have:e'=e:=gT Jn Nr he (z.trans ek.symm);subst this;exact ae
     exact⟨FY,f1,f2,_,_,rfl⟩
  ·have ei:i=ts.length:=by omega
   subst ei;refine .inl ⟨⟨ys,ba.of G6,by omega⟩,?_⟩;rw[List.take_length] at dr gd Jn gl;refine⟨_,rfl,dd,FQ,rfl,.inr ⟨hd,λo=>?_⟩⟩
   have sF:ax H (upd H' dd (jm o FQ)):=λb u e=>by rw[ai (ar e HE)];exact sH b u e
   have SO:DR (upd H' dd (jm o FQ)) FQ (aY p ts):=dr.keep (aG.upd λxs z=>by rw[hd] at z;cases z);have kl:FQ.length=(aY p ts).length:=dr.length
   refine⟨λi m xs σ' H2=>m=(aY p ts).length-i/\i<=(aY p ts).length/\ax H H2/\H2 dd=some (jm o FQ)/\DR H2 FQ (aY p ts)/\bZ H2 xs (((aY p ts).take i).filter λe=>e.2.1 != 0)/\∃o1 o2,σ'=[o1,o2],
    ⟨(aY p ts).length,by simp,Nat.zero_le _,sF,ae,SO,.nil,none,none,rfl⟩,?_⟩
   rintro i m' xs σ' H2 ⟨rfl,ZP,s2,hd2,Ko,HW,o1,o2,rfl⟩
   have xl:xs.length<=(aY p ts).length:=by
    rw[HW.length];exact Nat.le_trans (List.length_filter_le _ _) (by simp;omega)
   refine⟨Nat.lt_of_le_of_lt (Nat.le_trans xl gl) (Nat.lt_trans h64 (by decide)),?_⟩
   by_cases G7:i<(aY p ts).length
   ·refine .inr ⟨⟨by omega,hd2⟩,λx H3 hx=>?_⟩;obtain⟨pp,b,k,v,hk,Nf,hb,rfl,rfl⟩:=hx;obtain⟨e,ee,ek,a,ev,ha⟩:=cn Ko hk;have ek:k=jn e.1:=ek;have ev:v=.ref a:=ev;subst ek;subst ev;have sP:ax H2 (upd H2 pp (.tup [.ref b,.ref a])):=aq Nf
    have Hv:(aY p ts).take (i+1)=(aY p ts).take i++[e]:=by rw[List.take_add_one,ee];rfl
    rw[iZ] at hb;refine⟨pp,_,rfl,bx.of ae,rfl,_,_,rfl,_,_,rfl,rfl,?_⟩;refine⟨_,rfl,a,_,0,_,rfl,rfl,bx.of (sP _ _ ha),rfl,rfl,_,rfl,?_⟩;have dP:upd H2 pp (.tup [.ref b,.ref a]) dd=some (jm o FQ):=sP _ _ hd2
    cases hz:(e.2.1 != 0) with
    |true =>
     have z:(!decide (V.int e.2.1=V.int 0))=true:=by
      have:e.2.1≠0:=by simpa using hz
      simp[this]
     rw[z];refine aW ⟨_,rfl,_,rfl,ic,λt' Nt=>?_⟩;have sT:ax (upd H2 pp (.tup [.ref b,.ref a])) (upd (upd H2 pp (.tup [.ref b,.ref a])) t' (.tup [.ref b,.ref a])):=aq Nt;have sA:ax H2 (upd (upd H2 pp (.tup [.ref b,.ref a])) t' (.tup [.ref b,.ref a])):=λc u e=>sT _ _ (sP _ _ e);refine⟨(aY p ts).length-(i+1),by omega,rfl,G7,λc u e=>sA _ _ (s2 _ _ e),sA _ _ hd2,Ko.keep (aG.of sA),?_,_,_,rfl⟩;rw[Hv,List.filter_append]
     have ef:[e].filter (λe=>e.2.1 != 0)=[e]:=by simp[hz]
     rw[ef];exact Paired.snoc (bZ.keep HW (aG.of sA)) ⟨t',b,a,rfl,ae,sA _ _ hb,sA _ _ ha⟩
    |false =>
     have z:(!decide (V.int e.2.1=V.int 0))=false:=by
      have:e.2.1=0:=by simpa using hz
      simp[this]
     rw[z];refine bD ⟨(aY p ts).length-(i+1),by omega,rfl,G7,λc u e=>sP _ _ (s2 _ _ e),sP _ _ hd2,Ko.keep (aG.of sP),?_,_,_,rfl⟩;rw[Hv,List.filter_append]
     have ef:[e].filter (λe=>e.2.1 != 0)=[]:=by simp[hz]
     rw[ef,List.append_nil];exact bZ.keep HW (aG.of sP)
   ·have SQ:i=(aY p ts).length:=by omega
    subst SQ;refine .inl ⟨⟨by omega,hd2⟩,λD hD=>?_⟩;rw[List.take_length] at HW;have sD:ax H2 (upd H2 D (.lst xs)):=aq hD;refine⟨_,rfl,D,xs,rfl,ba.of ae,Nat.lt_of_le_of_lt xl G.few,?_⟩;refine mJ (bZ.keep HW (aG.of sD)) λks H3 s3 hk=>?_;refine⟨_,nY hk,qV Jn _,λD2 Rz=>?_⟩;have sE:ax H3 (upd H3 D2 (.lst ((dq ((((aY p ts).filter λe=>e.2.1 != 0).map fJ).zip xs)).map (·.2)))):=aq Rz;refine q _ D2 _ (λc u e=>sE _ _ (s3 _ _ (sD _ _ (s2 _ _ e)))) (none_of (λc u e=>s3 _ _ (sD _ _ (s2 _ _ e))) Rz) ae ?_;have RA:bZ H3 xs ((aY p ts).filter λe=>e.2.1 != 0):=bZ.keep HW (aG.of λc u e=>s3 _ _ (sD _ _ e));exact bZ.keep (kx (gZ (ka RA))) (aG.of sE)
noncomputable abbrev nI:Stmt:=(aJ 82)
noncomputable def jT:Sp:=λvs H Q _=>∃(l:Addr)(p:Int)(ys:List V)(ts:List Tm),vs=[.int p,.ref l]/\FP p/\H l=some (.lst ys)/\bZ H ys ts/\BN p ts /\
 ∀H' D zs,ax H H'->H' D=some (.lst zs)->bZ H' zs (fP (aY p ts))->Q (.ref D) H'
theorem iA:yd ["_law_prime_here","_law_terms_here","_law_found","_law_product_here","_law_number_here","_law_rows"] Fv (ak nI):=c9 (by decide +kernel)
noncomputable def xZ (H:Hp)(x:V)(e:Tm):Prop:=∃t b a,x=.ref t/\H t=some (.tup [.int e.1.length,.ref b,.ref a])/\H b=some (.tup (e.1.map V.int))/\H a=some (cA e.2.1 e.2.2)
theorem xZ.keep {t:Tm}(h:xZ H y t)(k:aG H H'):xZ H' y t:=let⟨a,pr,nu,e,h1,h2,h3⟩:=h;⟨a,pr,nu,e,k _ _ h1,k _ _ h2,k _ _ h3⟩
noncomputable abbrev gG (H:Hp):List V->List Tm->Prop:=Paired (xZ H)
theorem gG.keep {ys:List V}(h:gG H ys ts)(k:aG H H'):gG H' ys ts:=Paired.aa0 h λ_ _ z=>z.keep k
theorem ml {K:Frag}:∀{ks:List V}{es:List Tm},gG H ks es->dk K H ks (es.map fJ)
 |_,_,.nil=>True.intro
 |_,_,.cons h t=>by
  obtain⟨t0,b,a,rfl,h1,h2,h3⟩:=h;exact⟨⟨t0,b,[.ref a],rfl,bx.of h1,bx.of h2⟩,ml t⟩
theorem wR {fl:Addr}{Hn:vH}(F:xR K "_law_gather" "_law_gather" nI f fd)(Gq:mg "sorted"=none)(m_len:mg "len"=none)
 (SR:Ef P w K mg base (aO P w) 3 fl Hn D1 (ko jg))(SS:L2.az K Hn D1 [])(SU:mg "_law_plus"=some (.ref fl))(SV:keepIn K (.ref fl)=true):
 Ef P w K mg base (aO P w) 4 f fd Fv jT:=by
 refine F.okN iA (λvs H Q E h=>?_) (λFV A outer s H vs Q E hr h=>?_)
 ·obtain⟨l,p,ys,ts,rfl,_⟩:=h;rfl
 ·obtain⟨l,p,ys,ts,rfl,hp,hl,Kn,G,q⟩:=h;have h64:=G.len;have hG:=G.num;have G5:Fq 3 _:=hr.mono (by decide);have SM:Fq (1+2) _:=hr.mono (by decide);have Gb:Fq 1 _:=hr.mono (by decide);have hu:=(hr.units:_+64<cLine)
  replace hu:=Nat.lt_of_le_of_lt (Nat.add_le_add_left (by decide:1<=64) _) hu
  refine⟨_,(ao (@aM _ _ 2 _ _ _ _ iA.nd rfl (Or.inr rfl) jL rfl (Or.inl rfl))
   (ao (dJ PassesOwn.never rfl (cE (pv 1)) (cf rfl (aC (aA (i:=3) iA.nd rfl (Or.inl rfl)) (aC (aA (i:=4) iA.nd rfl (Or.inl rfl)) bH)))
   (au (qY hu (pv 2) (pv 3) (av SR G5 (by rfl) SU SV SS .nil af (@aj _ _ _ _ _ (pv 0) (@aj _ _ _ _ _ (abk hu (pv 2) (pv 3) (@bO _ _ _ _ _ (@aj _ _ _ _ _ ah (@aj _ _ _ _ _ ah ag rfl) rfl)) ⟨rfl,rfl,rfl,rfl⟩) (@aj _ _ _ _ _ (pv 4) ag rfl) rfl) rfl)) (by rfl))))
   (ao (iH (i:=5) (N:=["_law_product_here","_law_found"]) (nl:=1) (js:=[2]) (osc:=ak nI) ⟨rfl,rfl,by decide +kernel,by decide +kernel,by decide +kernel,rfl,(.cons ⟨rfl,by decide +kernel⟩ .nil),by decide +kernel⟩ rfl iA.nd rfl (Or.inl rfl)
    (yV (pv 2))
    (λC fp s H=>aA (i:=0) (by show(["_law_product_here","_law_found"]:nO).Nodup;decide +kernel) rfl (Or.inl rfl) (Or.inr rfl))
    (λC fp s H=>(fA (@aI _ _ _ _ _ _ _ _ (show gF _ _ (CI K true) from Bf Gb) (nG hu (pv 1) (pv 0) (λ_ _=>rfl)) (@bO _ _ _ _ _ (@aj _ _ _ _ _ ah (@aj _ _ _ _ _ ah ag rfl) rfl)) (aK _))))
    (λC fp s H=>(@bO _ _ _ _ _ (@aj _ _ _ _ _ (aB (show dE _ _ (λxs H Q=>∃p ys,xs=[.ref p]/\(ba K H p ys\/bx K H p ys)/\Q (.int ys.length) H) from bJ) (by rfl) m_len PySem.boot_len (@aj _ _ _ _ _ (pv 0) ag rfl)) (@aj _ _ _ _ _ (pv 0) (@aj _ _ _ _ _ (nG hu (pv 1) (pv 0) (λ_ _=>rfl)) ag rfl) rfl) rfl))) (by rfl))
   (au (ay (cI (g:=gD K 3 (bX (aZ 0) (bX (aZ 1) (bX (aZ 2) DH)))) (N:=["_law_many","_law_product_here","_law_number_here"]) (nl:=3) (js:=[]) (osc:=ak nI) ⟨rfl,rfl,by decide +kernel,by decide +kernel,by decide +kernel,rfl,.nil,by decide +kernel⟩ rfl
    (cE (aB (n5 SM) (by rfl) Gq (by rfl) (@aj _ _ _ _ _ (pv 5) ag rfl)))
    (λC fp s H=>(cf (X:=bQ _ ["_law_many","_law_product_here","_law_number_here"] _ C fp s H) rfl (aC (aA (X:=bQ _ ["_law_many","_law_product_here","_law_number_here"] _ C fp s H) (i:=0) (by show(["_law_many","_law_product_here","_law_number_here"]:nO).Nodup;decide +kernel) rfl (Or.inl rfl) (Or.inr rfl)) (aC (aA (X:=bQ _ ["_law_many","_law_product_here","_law_number_here"] _ C fp s H) (i:=1) (by show(["_law_many","_law_product_here","_law_number_here"]:nO).Nodup;decide +kernel) rfl (Or.inl rfl) (Or.inr rfl)) (aC (aA (X:=bQ _ ["_law_many","_law_product_here","_law_number_here"] _ C fp s H) (i:=2) (by show(["_law_many","_law_product_here","_law_number_here"]:nO).Nodup;decide +kernel) rfl (Or.inl rfl) (Or.inr rfl)) bH)))))
    (λC fp s H=>ck)
    (λC fp s H=>(@bO _ _ _ _ _ (@aj _ _ _ _ _ (pv 1) (@aj _ _ _ _ _ (pv 2) ag rfl) rfl))))))))),?_⟩
  have hlen:=Kn.length
  have gg:∀i,i<=ts.length->my p 4000 (aY p (ts.take i))/\((aY p (ts.take i)).map (·.1)).Nodup/\(aY p (ts.take i)).length<=i:=λi hi=>by
   obtain⟨_,g2,g3⟩:=c6 (m:=4000) hp i (ts.take i) (by simp;omega) λt ht=>hG t (List.mem_of_mem_take ht);exact⟨G.steps i hi,g2,g3⟩
  have one:∀{n:Nat}{a:Int×Int},Gn p n a->p≠0->a.2=1:=λh z=>(h.1.pr z).1;refine λdd HE=>?_;have s1:ax H (upd H dd (.dT [])):=aq HE;refine⟨_,rfl,l,rfl,⟨ys,ba.of (s1 _ _ hl)⟩,?_⟩
  refine⟨λi m σ' H'=>m=ts.length-i/\i<=ts.length/\ax H H'/\(∃FQ,H' dd=some (.dT FQ)/\DR H' FQ (aY p (ts.take i)))/\∃o3 o4,σ'=[some (.int p),some (.ref l),some (.ref dd),o3,o4,none],
   ⟨ts.length,by simp,Nat.zero_le _,s1,⟨[],ae,.nil⟩,none,none,rfl⟩,?_⟩
  rintro i m' σ' H' ⟨rfl,hi,sH,⟨FQ,hd,dr⟩,o3,o4,rfl⟩;have G6:=sH _ _ hl;obtain⟨gd,Jn,gl⟩:=gg i hi
  by_cases FY:i<ts.length
  ·have Nq:i<ys.length:=by omega
   refine .inr ⟨⟨ys,ys[i],ba.of G6,by simp[Nq]⟩,λσ' H'=>i+1<=ts.length/\ax H H'/\(∃FQ,H' dd=some (.dT FQ)/\DR H' FQ (aY p (ts.take (i+1))))/\∃o3 o4,σ'=[some (.int p),some (.ref l),some (.ref dd),o3,o4,none],?_,λy H2 hy=>?_⟩
   ·rintro σ' H' ⟨h1,h2,h3,h4⟩;exact⟨ts.length-(i+1),by omega,rfl,h1,h2,h3,h4⟩
   ·obtain⟨rfl,hy⟩:=hy;obtain⟨t,et,tr⟩:=cn Kn (hy ys (ba.of G6));obtain⟨a,pr,nu,rfl,ha,GV,HY⟩:=tr.keep (aG.of sH);have gt:=hG t (List.mem_of_getElem? et)
    have Hv:ts.take (i+1)=ts.take i++[t]:=by rw[List.take_add_one,et];rfl
    have HF:∀H3:Hp,aG H2 H3->H3 pr=some (.tup ((jn t.1).map kV)):=λH3 k=>by rw[iZ];exact k _ _ GV
    have fin:∀(H3:Hp)(an:Addr),ax H H3->aG H2 H3->H3 dd=some (.dT FQ)->((aY p (ts.take i)).any (λe=>decide (e.1=t.1))=false->H3 an=some (cA t.2.1 t.2.2)) →
     (∀e∈aY p (ts.take i),e.1=t.1->H3 an=some (cA (dY p e.2 t.2).1 (dY p e.2 t.2).2)) →
     ax H (upd H3 dd (.dT (dm FQ (jn t.1) (.ref an))))/\∃IL,(upd H3 dd (.dT (dm FQ (jn t.1) (.ref an)))) dd=some (.dT IL)/\DR (upd H3 dd (.dT (dm FQ (jn t.1) (.ref an)))) IL (aY p (ts.take (i+1))):=by
     intro H3 an s3 k3 h3 Jx HP;refine⟨λb u e=>by rw[ai (ar e HE)];exact s3 b u e,_,ae,?_⟩;rw[Hv,iW];exact(u5 (dr.keep k3) Jn Jx HP).keep (aG.upd λxs z=>by rw[h3] at z;cases z)
    have IM:FQ.length<sizeLine:=by
     rw[dr.length];exact Nat.lt_of_le_of_lt gl (Nat.lt_trans (Nat.lt_of_le_of_lt hi h64) (by decide))
    refine⟨a,_,rfl,bx.of ha,rfl,_,_,rfl,_,_,rfl,rfl,?_⟩;refine⟨_,rfl,_,rfl,dd,rfl,.inr ⟨FQ,.inl hd⟩,_,rfl,ic,λt0 IP=>?_⟩;have sZ:ax H2 (upd H2 t0 (.tup [.int 0,.int 1])):=aq IP;refine⟨_,i7.t (sZ _ _ hd) (HF _ (aG.of sZ)),?_⟩
    cases hq:(aY p (ts.take i)).any (λe=>decide (e.1=t.1)) with
    |false =>
     rw[qU t.1 dr hq];refine⟨_,rfl,p,0,1,t.2.1,t.2.2,t0,nu,rfl,hp,ae,sZ _ _ HY,(by unfold B;decide),(by show(1:Nat)<2^4000;exact Nat.one_lt_two_pow (by decide)),gt.2.1,gt.2.2,(by decide),gt.ne,λz=>by rw[one gt z];decide,λH3 an s3 h3=>?_⟩;have ez:dY p (0,1) t.2=t.2:=uD hp gt
     have SX:H3 an=some (cA t.2.1 t.2.2):=by
      have:H3 an=some (cA (dY p (0,1) t.2).1 (dY p (0,1) t.2).2):=h3;rw[ez] at this;exact this
     have sA:ax H2 H3:=λb u e=>s3 _ _ (sZ _ _ e);refine⟨_,rfl,_,rfl,dd,_,rfl,oI.t (sA _ _ hd) (HF _ (aG.of sA)) IM,?_⟩
     obtain⟨f1,f2⟩:=fin H3 an (λb u e=>sA _ _ (sH _ _ e)) (aG.of sA) (sA _ _ hd) (λ_=>SX) λe he z=>by
      have:(aY p (ts.take i)).any (λe=>decide (e.1=t.1))=true:=List.any_eq_true.mpr ⟨e,he,by simpa using z⟩;rw[hq] at this;cases this
     exact⟨FY,f1,f2,_,_,rfl⟩
    |true =>
     obtain⟨e,he,ek,a0,hv,SN⟩:=j5 t.1 dr hq;rw[hv];have ge:=gd e he;refine⟨_,rfl,p,e.2.1,e.2.2,t.2.1,t.2.2,a0,nu,rfl,hp,sZ _ _ SN,sZ _ _ HY,ge.2.1,ge.2.2,gt.2.1,gt.2.2,ge.ne,gt.ne,λz=>by rw[one gt z,one ge z];decide,λH3 an s3 h3=>?_⟩;have sA:ax H2 H3:=λb u e=>s3 _ _ (sZ _ _ e);refine⟨_,rfl,_,rfl,dd,_,rfl,oI.t (sA _ _ hd) (HF _ (aG.of sA)) IM,?_⟩
     obtain⟨f1,f2⟩:=fin H3 an (λb u e=>sA _ _ (sH _ _ e)) (aG.of sA) (sA _ _ hd) (λz=>by rw[hq] at z;cases z) λe' Nr z=>by
      have:e'=e:=gT Jn Nr he (z.trans ek.symm);subst this;exact h3
     exact⟨FY,f1,f2,_,_,rfl⟩
  ·have ei:i=ts.length:=by omega
   subst ei;refine .inl ⟨⟨ys,ba.of G6,by omega⟩,?_⟩;rw[List.take_length] at dr gd Jn gl;refine⟨_,rfl,dd,FQ,rfl,.inr ⟨hd,λo=>?_⟩⟩
   have sF:ax H (upd H' dd (jm o FQ)):=λb u e=>by rw[ai (ar e HE)];exact sH b u e
   have SO:DR (upd H' dd (jm o FQ)) FQ (aY p ts):=dr.keep (aG.upd λxs z=>by rw[hd] at z;cases z);have kl:FQ.length=(aY p ts).length:=dr.length
   refine⟨λi m xs σ' H2=>m=(aY p ts).length-i/\i<=(aY p ts).length/\ax H H2/\H2 dd=some (jm o FQ)/\DR H2 FQ (aY p ts)/\gG H2 xs (((aY p ts).take i).filter λe=>e.2.1 != 0)/\∃o1,σ'=[o1,some (.ref dd)],
    ⟨(aY p ts).length,by simp,Nat.zero_le _,sF,ae,SO,.nil,none,rfl⟩,?_⟩
   rintro i m' xs σ' H2 ⟨rfl,ZP,s2,hd2,Ko,HW,o1,rfl⟩
   have xl:xs.length<=(aY p ts).length:=by
    rw[HW.length];exact Nat.le_trans (List.length_filter_le _ _) (by simp;omega)
   refine⟨Nat.lt_of_le_of_lt (Nat.le_trans xl gl) (Nat.lt_trans h64 (by decide)),?_⟩
   by_cases G7:i<(aY p ts).length
   ·refine .inr ⟨⟨by omega,hd2⟩,λx H3 hx=>?_⟩;obtain⟨b,k,v,hk,hb,rfl,rfl⟩:=hx;obtain⟨e,ee,ek,_⟩:=cn Ko hk;have ek:k=jn e.1:=ek;subst ek;have he:=List.mem_of_getElem? ee;have ge:=gd e he
    have Hv:(aY p ts).take (i+1)=(aY p ts).take i++[e]:=by rw[List.take_add_one,ee];rfl
    obtain⟨e',Nr,ZQ,a,hv,ha⟩:=j5 e.1 Ko (List.any_eq_true.mpr ⟨e,he,by simp⟩);have:e'=e:=gT Jn Nr he ZQ;subst this;have dg:∀H4:Hp,ax H3 H4->i7 H4 dd (.ref b) (some (.ref a)):=λH4 s4=>.inr ⟨FQ,jn e'.1,b,.inr ⟨o,s4 _ _ hd2⟩,rfl,s4 _ _ hb,hv.symm⟩;have Gs:=hb;rw[iZ] at Gs;refine⟨_,rfl,_,rfl,dd,.ref a,rfl,dg _ (ax.refl _),ic,λt0 IP=>?_⟩;have sZ:ax H3 (upd H3 t0 (cA 0 1)):=aq IP;refine⟨_,_,BP (sZ _ _ ha),BP ae,by rw[D7];decide,_,rfl,?_⟩;rw[Er]
    cases hz:(e'.2.1 != 0) with
    |true =>
     have z:((e'.2.1==0&&e'.2.2==1) != true)=true:=by
      have:e'.2.1≠0:=by simpa using hz
      simp[this]
     rw[z];refine aW ⟨_,rfl,b,_,rfl,.inr (bx.of (sZ _ _ Gs)),_,rfl,_,rfl,_,rfl,dd,.ref a,rfl,dg _ sZ,aav,λt' Nt=>?_⟩;rw[List.length_map];have sT:ax (upd H3 t0 (cA 0 1)) (upd (upd H3 t0 (cA 0 1)) t' (.tup [.int e'.1.length,.ref b,.ref a])):=aq Nt;have sA:ax H3 (upd (upd H3 t0 (cA 0 1)) t' (.tup [.int e'.1.length,.ref b,.ref a])):=λc u e=>sT _ _ (sZ _ _ e);refine⟨(aY p ts).length-(i+1),by omega,rfl,G7,λc u e=>sA _ _ (s2 _ _ e),sA _ _ hd2,Ko.keep (aG.of sA),?_,_,rfl⟩;rw[Hv,List.filter_append]
     have ef:[e'].filter (λe=>e.2.1 != 0)=[e']:=by simp[hz]
     rw[ef];exact Paired.snoc (gG.keep HW (aG.of sA)) ⟨t',b,a,rfl,ae,sA _ _ Gs,sA _ _ ha⟩
    |false =>
     have z:((e'.2.1==0&&e'.2.2==1) != true)=false:=by
      have h0:e'.2.1=0:=by simpa using hz
      have h1:e'.2.2=1:=by
       have g1:=ge.1.pos;have g2:=ge.1.red;rw[h0] at g2
       have:e'.2.2.natAbs=1:=by simpa using g2
       omega
      simp[h0,h1]
     rw[z];refine bD ⟨(aY p ts).length-(i+1),by omega,rfl,G7,λc u e=>sZ _ _ (s2 _ _ e),sZ _ _ hd2,Ko.keep (aG.of sZ),?_,_,rfl⟩;rw[Hv,List.filter_append]
     have ef:[e'].filter (λe=>e.2.1 != 0)=[]:=by simp[hz]
     rw[ef,List.append_nil];exact gG.keep HW (aG.of sZ)
   ·have SQ:i=(aY p ts).length:=by omega
    subst SQ;refine .inl ⟨⟨by omega,hd2⟩,λD hD=>?_⟩;rw[List.take_length] at HW;have sD:ax H2 (upd H2 D (.lst xs)):=aq hD;have RA:=gG.keep HW (aG.of sD);refine⟨_,rfl,D,xs,_,rfl,ba.of ae,Nat.lt_of_le_of_lt xl G.few,ml RA,qV Jn _,λD2 Rz=>?_⟩;have SY:gG (upd H2 D (.lst xs)) ((dq ((((aY p ts).filter λe=>e.2.1 != 0).map fJ).zip xs)).map (·.2)) (fP (aY p ts)):=kx (gZ (ka RA));generalize (dq ((((aY p ts).filter λe=>e.2.1 != 0).map fJ).zip xs)).map (·.2)=zs at SY |-;have zl:=SY.length
    have tl:(fP (aY p ts)).length<=(aY p ts).length:=by
     unfold fP;rw[List.length_map,(cW _).length_eq,List.length_map];exact List.length_filter_le _ _
    have sE:ax (upd H2 D (.lst xs)) (upd (upd H2 D (.lst xs)) D2 (.lst zs)):=aq Rz;have Xh:=gG.keep SY (aG.of sE);have Xi:ax H (upd (upd H2 D (.lst xs)) D2 (.lst zs)):=λc u e=>sE _ _ (sD _ _ (s2 _ _ e));have Lu:upd (upd H2 D (.lst xs)) D2 (.lst zs) D2=some (.lst zs):=ae;generalize upd (upd H2 D (.lst xs)) D2 (.lst zs)=H4 at Xh Xi Lu |-;refine⟨D2,rfl,⟨zs,ba.of Lu⟩,?_⟩;refine⟨λi m us σ' H5=>m=zs.length-i/\i<=zs.length/\ax H4 H5/\bZ H5 us ((fP (aY p ts)).take i)/\∃o1 o2 o3,σ'=[o1,o2,o3],⟨zs.length,by simp,Nat.zero_le _,ax.refl _,.nil,none,none,none,rfl⟩,?_⟩;rintro i m' us σ' H5 ⟨rfl,hi5,s5,RB,o1,o2,o3,rfl⟩
    have ul:us.length<=zs.length:=by
     rw[RB.length];simp;omega
    refine⟨Nat.lt_of_le_of_lt (Nat.le_trans ul (Nat.le_trans (Nat.le_of_eq zl) (Nat.le_trans tl gl))) (Nat.lt_trans h64 (by decide)),?_⟩;have Nu:=s5 _ _ Lu
    by_cases Nv:i<zs.length
    ·refine .inr ⟨⟨zs,zs[i],ba.of Nu,by simp[Nv]⟩,λx H6 hx=>?_⟩;obtain⟨rfl,hx⟩:=hx;obtain⟨e,ee,er⟩:=cn Xh (hx zs (ba.of Nu));obtain⟨t0,b,a,rfl,h1,h2,h3⟩:=er.keep (aG.of s5)
     have Hv:(fP (aY p ts)).take (i+1)=(fP (aY p ts)).take i++[e]:=by rw[List.take_add_one,ee];rfl
     refine⟨t0,_,rfl,bx.of h1,rfl,_,_,rfl,_,_,rfl,_,_,rfl,rfl,?_⟩;dsimp only[BX];refine aW ⟨_,rfl,_,rfl,ic,λt' Nt=>?_⟩;have sT:ax H6 (upd H6 t' (.tup [.ref b,.ref a])):=aq Nt;refine⟨zs.length-(i+1),by omega,rfl,Nv,λc u e=>sT _ _ (s5 _ _ e),?_,_,_,_,rfl⟩;rw[Hv];exact Paired.snoc (bZ.keep RB (aG.of sT)) ⟨t',b,a,rfl,ae,sT _ _ h2,sT _ _ h3⟩
    ·have ZR:i=zs.length:=by omega
     subst ZR;refine .inl ⟨⟨zs,ba.of Nu,Nat.le_refl _⟩,λD3 Nw=>?_⟩;rw[zl,List.take_length] at RB;have sL:ax H5 (upd H5 D3 (.lst us)):=aq Nw;exact q _ D3 _ (λc u e=>sL _ _ (s5 _ _ (Xi _ _ e))) ae (bZ.keep RB (aG.of sL))
noncomputable abbrev qO:Stmt:=bq (aJ 53) 0
noncomputable def CY (ks:List Int):Prop:=j8 (some (ks.map V.int))=true/\ks.length<4000
theorem xT {t b:Int}(n:Num p t b):xG p (some (.int t,.int b))=true:=by
 unfold xG;dsimp only
 by_cases z:p=0
 ·rw[if_pos z,n.red];have:=n.pos;simp;omega
 ·rw[if_neg z];obtain⟨h1,h2,h3⟩:=n.pr z;simp[h1,h2,h3]
theorem C3 {n:Nat}{t:Tm}(h:Bt H y t)(g:Gn p n t.2)(pd:CY t.1):Ea p H y true:=by
 obtain⟨a,pr,nu,rfl,ha,GV,HY⟩:=h
 have e:Ea p H (.ref a) (j8 (some (t.1.map V.int))&&xG p (some (.int t.2.1,.int t.2.2))):=.two ha (.tup GV (by rw[List.length_map];exact pd.2) λy hy=>by
  obtain⟨k,_,rfl⟩:=List.mem_map.mp hy
  exact⟨_,.int k⟩) (.two HY (.int _) (.int _))
 rw[pd.1,xT g.1] at e;exact e
theorem vZ {n:Nat}:∀{ys:List V}{ts:List Tm},bZ H ys ts->(∀t∈ts,Gn p n t.2/\CY t.1)->∀y∈ys,Ea p H y true
 |_,_,.nil,_,y,hy=>nomatch hy
 |_,_,.cons h t,g,y,hy=>by
  rcases List.mem_cons.mp hy with rfl|hy
  ·exact C3 h (g _ List.mem_cons_self).1 (g _ List.mem_cons_self).2
  ·exact vZ t (λt ht=>g t (List.mem_cons_of_mem _ ht)) y hy
structure yw (K:Frag)(mg:yN)(C:Addr):Prop where
 cl:uU K C
 nF:cT K C "its_field"
 nT:cT K C "its_terms"
 mgC:mg "Sum"=some (.ref C)
noncomputable def xm (fl D:Addr):List (Str×V):=[("its_field",.ref fl),("its_terms",.ref D)]
noncomputable def nj (C CF:Addr):Sp:=λvs H Q _=>∃(s dx fl F6:Addr)(p:Int)(x:V)(ts:List Tm),vs=[.ref s,.ref fl,x]/\H s=some (.ins C dx [])/\H fl=some (.ins CF F6 (dR p))/\FP p /\
 ((x=.non/\ts=[])\/∃l ys,x=.ref l/\H l=some (.lst ys)/\bZ H ys ts)/\BN p ts/\(∀t∈ts,CY t.1) /\
 ∀H' D zs,SameBut s H H'->H D=none->H' s=some (.ins C dx (xm fl D))->H' D=some (.lst zs)->bZ H' zs (fP (aY p ts))->Q .non H'
theorem yB:yd tj tj (ak qO):=c9 (by decide +kernel)
theorem v9 {fg fc C CF T:Addr}{Kj Hr:vH}(F:Ca K "__init__" "Sum.__init__" qO f fd T)(c:yw K mg C)
 (FG:Ef P w K mg base (aO P w) 5 fg Kj qo (qv CF))(bG:L2.az K Kj qo [])(mG:mg "gathered"=some (.ref fg))(kG:keepIn K (.ref fg)=true)
 (FC:Ef P w K mg base (aO P w) 5 fc Hr qo (l9 CF))(bC:L2.az K Hr qo [])(mC:mg "checked_terms"=some (.ref fc))(kC:keepIn K (.ref fc)=true):
 Ef P w K mg base (aO P w) 6 f fd tj (nj C CF):=by
 refine F.okE yB (λvs H Q E h=>?_) (λFV A outer s H vs Q E hr h=>?_)
 ·obtain⟨s,dx,fl,F6,p,x,ts,rfl,_⟩:=h;rfl
 ·obtain⟨s0,dx,fl,F6,p,x,ts,rfl,hs,hf,hp,hx,G,hP,q⟩:=h;have hG:∀t∈ts,Gn p 4000 t.2/\CY t.1:=λt ht=>⟨G.num t ht,hP t ht⟩;have JP:Fq 5 _:=hr.mono (by decide);refine⟨_,ao (gW (pv 0) (pv 1) rfl) (au (gW (pv 0) (av FG JP (by rfl) mG kG bG .nil af (@aj _ _ _ _ _ (pv 1) (@aj _ _ _ _ _ (av FC JP (by rfl) mC kC bC .nil af (@aj _ _ _ _ _ (pv 1) (@aj _ _ _ _ _ (pv 2) ag rfl) rfl)) ag rfl) rfl)) rfl)),?_⟩;refine⟨_,rfl,_,rfl,s0,C,dx,_,rfl,hs,c.cl,c.nF,by decide,?_⟩
  have Jz:fl≠s0:=λz=>by
   rw[z,hs] at hf
   injection hf with hf
   injection hf with _ _ hf
   cases hf
  have Lv:upd H s0 (.ins C dx (cP "its_field" (.ref fl) [])) fl=some (.ins CF F6 (dR p)):=by rw[ai Jz];exact hf
  have kT:aG H (upd H s0 (.ins C dx (cP "its_field" (.ref fl) []))):=aG.upd λxs z=>by rw[hs] at z;cases z
  have fin:∀(H2:Hp)(l:Addr)(ys:List V),ax (upd H s0 (.ins C dx (cP "its_field" (.ref fl) []))) H2->H2 l=some (.lst ys)->bZ H2 ys ts->qv CF [.ref fl,.ref l] H2 (λy H1=>cC 0 [some (.ref s0),some (.ref fl),some x] H1 λx2 H2=>∃a C dx fs,x2=.ref a/\H2 a=some (.ins C dx fs)/\uU K C/\cT K C "its_terms"/\fs.length<1000 /\
   Q .non (upd H2 a (.ins C dx (cP "its_terms" y fs)))) λ_ _ _=>False:=by
   intro H2 l ys s2 hl ht;refine⟨fl,F6,l,p,ys,ts,rfl,s2 _ _ Lv,hp,hl,ht,G,λH3 D zs s3 h0 hD hz=>?_⟩;have Lw:H3 s0=some (.ins C dx (cP "its_field" (.ref fl) [])):=s3 _ _ (s2 _ _ ae);refine⟨_,rfl,s0,C,dx,_,rfl,Lw,c.cl,c.nT,(by show 1<1000;decide),?_⟩
   have nD:D≠s0:=λz=>by rw[z,Lw] at hD;cases hD
   refine q _ D zs (λb u e nb=>?_) (none_of (λc u e=>e) (by
    cases e:H D with
    |none=>rfl
    |some u=>rw[s2 D u (by rw[ai nD];exact e)] at h0;cases h0)) ae (by rw[ai nD];exact hD) (bZ.keep hz (aG.upd λxs z=>by rw[Lw] at z;cases z))
   rw[ai nb];exact s3 _ _ (s2 _ _ (by rw[ai nb];exact e))
  rcases hx with⟨rfl,rfl⟩|⟨l,ys,rfl,hl,ht⟩
  ·refine⟨_,rfl,_,rfl,_,rfl,fl,F6,p,.non,rfl,Lv,hp,.inl ⟨rfl,λl hl=>?_⟩⟩;exact fin _ l [] (aq hl) ae .nil
  ·have nl:l≠s0:=λz=>by rw[z,hs] at hl;cases hl
   have GJ:upd H s0 (.ins C dx (cP "its_field" (.ref fl) [])) l=some (.lst ys):=by rw[ai nl];exact hl
   have Jo:=bZ.keep ht kT;refine⟨_,rfl,_,rfl,_,rfl,fl,F6,p,.ref l,rfl,Lv,hp,.inr ⟨l,ys,rfl,GJ,?_,vZ Jo hG,λH2 s2=>?_⟩⟩
   ·rw[ht.length];have:=G.len;omega
   ·exact fin _ l ys s2 (s2 _ _ GJ) (bZ.keep Jo (aG.of s2))
end K26
namespace Mx
open PySem PyProof.Rows
noncomputable def jt:Option Int->List Int->Option Int
 |b,[]=>b
 |none,n::ns=>jt (some n) ns
 |some m,n::ns=>jt (some (if n>m then n else m)) ns
noncomputable def kept (c:Nat):Option (Int×Tok)->Obj
 |none=>{cls:=.type "list",dict:=none,data:=.seq #[] c,slots:=#[]}
 |some (m,t)=>{cls:=.type "list",dict:=none,data:=.seq #[.int m t,.int m t] c,slots:=#[]}
section
variable {prog:zO}{w:World}{A:Around}{E:oP}{s:Fp}{R:Result->Shared->Prop}
theorem yP {a b:Int}{t u:Tok}{Q:oP}(h:Q (.bool (decide (a>b))) s):wpAny (model prog w) A (richCompare .Gt (.int a t) (.int b u)) Q E s :=
 CmpOf.ints_gt (P:=λi v=>∃t,v=.int (if i=0 then a else b) t) (λi=>if i=0 then a else b) (λ{_ _} h=>h) 0 1 _ _ s Q E ⟨t,by simp⟩ ⟨u,by simp⟩ (by simpa using h)
theorem Aw (a v:Value):argsOk "max" ⟨[a],[(Str.ofString "default",v)]⟩:=by unfold argsOk;kernel_rfl
theorem ik {I l S:Addr}{items:va}{d:Value}(hh:A.handled=none)(Kq:S≠I)(Ny:S≠l)(MB:l≠I):∀(ns:List Int)(i:Nat)(s:Fp)(b:Option (Int×Tok))(c:Nat),
 s.heap.IsListIter I l i->s.heap.IsList l items->IntsAre (items.toList.drop i) ns->s.heap.get? S=some (kept c b) →
 (∀v h' tk,(match jt (b.map (·.1)) ns with|none=>v=d|some m=>∃t,v=.int m t)->(∀x o,x≠I->x≠S->s.heap.get? x=some o->h'.get? x=some o)->R (.ok (.ret v)) {s with heap:=h',toks:=tk}) →
 codeAny (model prog w) A (.builtin "max.loop" ⟨[.ref I,.none,.ref S],[(Str.ofString "default",d)]⟩) R s
 |[],i,s,b,c,hit,hl,hn,hS,hR=>by
  have hx:items[i]?=none:=by
   have e:items.toList.drop i=[]:=by cases hq:items.toList.drop i with
    |nil=>rfl
    |cons x r=>rw[hq] at hn;cases hn
   have:=List.drop_eq_nil_iff.mp e;simp at this |-;omega
  refine codeAny_builtin F.entry_max_loop ?_;rw[Around.under_plainId F.plain_max_loop _]
  cases b with
  |none =>
   show wpAny _ A.in1 (seqItems? (.ref S)>>=_) _ _ s;refine wpAny_bind (wpAny_seqItems hS rfl ?_);show wpAny _ A.in1 (tryCatch (pyNext (.ref I)) _>>=_) _ _ s;refine wpAny_bind (wpAny_tryCatch (wpAny_pyNext_list_end hh hit hl hx λh' eb=>?_));refine wpAny_bind (wpAny_rule (wpAny_pure ?_));exact hR d h' s.toks rfl λx o h1 _ e=>eb x o h1 e
  |some p =>
   obtain⟨m,t⟩:=p;show wpAny _ A.in1 (seqItems? (.ref S)>>=_) _ _ s;refine wpAny_bind (wpAny_seqItems hS rfl ?_);show wpAny _ A.in1 (tryCatch (pyNext (.ref I)) _>>=_) _ _ s;refine wpAny_bind (wpAny_tryCatch (wpAny_pyNext_list_end hh hit hl hx λh' eb=>?_));have Kr:=eb S _ Kq hS;show wpAny _ A.in1 (updateSeq S (λ_=>#[])>>=_) _ _ _;refine wpAny_bind (wpAny_updateSeq Kr rfl (wpAny_bind (wpAny_letGo (wpAny_pure ?_))));exact hR _ _ s.toks ⟨t,rfl⟩ λx o h1 h2 e=>(Heap.get?_update_other _ _ (Ne.symm h2)).trans (eb x o h1 e)
 |n::ns,i,s,b,c,hit,hl,hn,hS,hR=>by
  have HG:(toString "max"++toString ".loop":String)="max.loop":=by decide
  obtain⟨t,hx,K5⟩:∃t,items[i]?=some (.int n t)/\IntsAre (items.toList.drop (i+1)) ns:=by
   cases hq:items.toList.drop i with
   |nil=>rw[hq] at hn;cases hn
   |cons x r =>
    rw[hq] at hn
    cases hn with
    |cons _ t hr =>
     refine⟨t,?_,?_⟩
     ·have:(items.toList.drop i)[0]?=some (Value.int n t):=by rw[hq];rfl
      simpa using this
     ·have:items.toList.drop (i+1)=(items.toList.drop i).drop 1:=by rw[List.drop_drop,Nat.add_comm]
      rw[this,hq];exact hr
  refine codeAny_builtin F.entry_max_loop ?_;rw[Around.under_plainId F.plain_max_loop _]
  cases b with
  |none =>
   show wpAny _ A.in1 (seqItems? (.ref S)>>=_) _ _ s;refine wpAny_bind (wpAny_seqItems hS rfl ?_);show wpAny _ A.in1 (tryCatch (pyNext (.ref I)) _>>=_) _ _ s;refine wpAny_bind (wpAny_tryCatch (wpAny_pyNext_list_item hit hl hx λh' JQ sb=>?_));have Kr:=(sb.2 S Kq).trans hS;show wpAny _ A.in1 (updateSeq S (λ_=>#[.int n t,.int n t])>>=_) _ _ _;refine wpAny_bind (wpAny_updateSeq Kr rfl ?_);rw[HG];refine wpAny_pure ⟨plainId_quiet F.plain_max_loop _,?_⟩;have up:∀x o,x≠S->h'.get? x=some o->(h'.update S (Obj.mapSeq λ_=>#[.int n t,.int n t])).get? x=some o:=λx o hx e=>(Heap.get?_update_other _ _ (Ne.symm hx)).trans e;refine ik hh Kq Ny MB ns (i+1) _ (some (n,t)) _ (JQ.at λo e=>up I o (Ne.symm Kq) e) ((hl.extBut sb.extBut MB).at λo e=>up l o (Ne.symm Ny) e) K5 (Heap.get?_update_self _ Kr rfl) λv h2 tk hv hk=>?_;exact hR v h2 tk hv λx o h1 h3 e=>hk x o h1 h3 (up x o h3 ((sb.2 x h1).trans e))
  |some p =>
   obtain⟨m,u⟩:=p;show wpAny _ A.in1 (seqItems? (.ref S)>>=_) _ _ s;refine wpAny_bind (wpAny_seqItems hS rfl ?_);show wpAny _ A.in1 (tryCatch (pyNext (.ref I)) _>>=_) _ _ s;refine wpAny_bind (wpAny_tryCatch (wpAny_pyNext_list_item hit hl hx λh' JQ sb=>?_));have Kr:=(sb.2 S Kq).trans hS;show wpAny _ A.in1 (tryCatch (holding [.int n t,.int n t] (richCompare .Gt (.int n t) (.int m u)>>=_)) _>>=_) _ _ _;refine wpAny_bind (wpAny_tryCatch (wpAny_holding (wpAny_bind (yP ?_))));refine wpAny_bind (wpAny_holding (wpAny_truthy_bool ?_));refine wpAny_bind (wpAny_letGo (wpAny_pure ?_))
   by_cases hb:n>m
   ·simp only[decide_eq_true hb,if_true];refine wpAny_bind (wpAny_updateSeq Kr rfl (wpAny_bind (wpAny_letGo ?_)));rw[HG];refine wpAny_pure ⟨plainId_quiet F.plain_max_loop _,?_⟩;have up:∀x o,x≠S->h'.get? x=some o->(h'.update S (Obj.mapSeq λ_=>#[.int n t,.int n t])).get? x=some o:=λx o hx e=>(Heap.get?_update_other _ _ (Ne.symm hx)).trans e;refine ik hh Kq Ny MB ns (i+1) _ (some (n,t)) _ (JQ.at λo e=>up I o (Ne.symm Kq) e) ((hl.extBut sb.extBut MB).at λo e=>up l o (Ne.symm Ny) e) K5 (Heap.get?_update_self _ Kr rfl) λv h2 tk hv hk=>?_;refine hR v h2 tk ?_ λx o h1 h3 e=>hk x o h1 h3 (up x o h3 ((sb.2 x h1).trans e));simpa only[Option.map_some,jt,if_pos hb] using hv
   ·simp only[decide_eq_false hb,Bool.false_eq_true,if_false];refine wpAny_bind (wpAny_letGo ?_);rw[HG];refine wpAny_pure ⟨plainId_quiet F.plain_max_loop _,?_⟩;refine ik hh Kq Ny MB ns (i+1) _ (some (m,u)) c JQ (hl.extBut sb.extBut MB) K5 Kr λv h2 tk hv hk=>?_;refine hR v h2 tk ?_ λx o h1 h3 e=>hk x o h1 h3 ((sb.2 x h1).trans e);simpa only[Option.map_some,jt,if_neg hb] using hv
theorem yg {id:String}{b:Builtin}{args:xF}{kw:List (Str×Value)}{Q:oP}(hk:builtinKind id=none)(hp:plainId id=true)(hb:entryFor table id=some b)(ha:argsOk id ⟨args,kw⟩)
 (hc:wpAny (model prog w) A.in1 (b ⟨args,kw⟩) (λfin s'=>match fin with
  | .done f=>(match (Except.ok f:Result) with| .ok (.ret v)=>Q v s'| .ok _=>False| .error e=>E e s')
  | .again c'=>c'.quiet=true/\codeAny (model prog w) A c' (λr s'=>match r with| .ok (.ret v)=>Q v s'| .ok _=>False| .error e=>E e s') s') E s):
 wpAny (model prog w) A (call (.builtin id) args kw) Q E s:=by
 refine wpAny_call (codeAny_call_builtin hp hb ?_);simp only[checkBuiltinCall,hk]
 cases S0:Manifest.signature? id with
 |none=>exact wpAny_pure hc
 |some xK =>
  have Lp:Bind.checkArgs id xK ⟨args,kw⟩=pure ():=by simpa only[argsOk,S0] using ha
  simp only[Lp];exact wpAny_pure hc
theorem AE {l:Addr}{items:va}{ns:List Int}{d:Value}{Q:oP}(hh:A.handled=none)(hl:s.heap.IsList l items)(hn:IntsAre items.toList ns)
 (hQ:∀v h' tk,(match jt none ns with|none=>v=d|some m=>∃t,v=.int m t)->(∀x o,s.heap.get? x=some o->h'.get? x=some o)->Q v {s with heap:=h',toks:=tk}):
 wpAny (model prog w) A (call (.builtin "max") [.ref l] [(Str.ofString "default",d)]) Q E s:=by
 have HG:(toString "max"++toString ".loop":String)="max.loop":=by decide
 refine yg F.kind_max F.plain_max F.entry_max (Aw _ _) ?_;show wpAny _ A.in1 (Builtin.Builtins.bindParams "max" ["key","default"] 0 ⟨[],[(Str.ofString "default",d)]⟩>>=_) _ _ s;refine wpAny_bind (wpAny_of_eq (show Builtin.Builtins.bindParams "max" ["key","default"] 0 ⟨[],[(Str.ofString "default",d)]⟩=pure [none,some d] from rfl) ?_);refine wpAny_bind (wpAny_pure ?_);refine wpAny_bind (wpAny_pyIter_list hl ?_);refine wpAny_bind (wpAny_newObj_type ?_);rw[HG]
 have lt:l<s.heap.objs.size:=by obtain⟨o,e,_⟩:=hl;exact Heap.lt_size e
 have sz:(s.heap.push {cls:=.type "list_iterator",data:=.fields #[.ref l,.int 0 0]}).objs.size=s.heap.objs.size+1:=Heap.size_push ..;have g2:∀x o,s.heap.get? x=some o->((s.heap.push {cls:=.type "list_iterator",data:=.fields #[.ref l,.int 0 0]}).push {cls:=.type "list",data:=.seq #[]}).get? x=some o:=λx o e=>Heap.get?_push_of_some _ (Heap.get?_push_of_some _ e);refine wpAny_pure ⟨plainId_quiet F.plain_max_loop _,ik (items:=items) hh ?_ ?_ (Nat.ne_of_lt lt) ns 0 _ none 0 ⟨_,Heap.get?_push_of_some _ (Heap.get?_push_size _ rfl),rfl,rfl⟩ (hl.at λo e=>g2 l o e) (by simpa using hn) (Heap.get?_push_size _ rfl) λv h' tk hv hk=>?_⟩
 ·show(s.heap.push _).objs.size≠s.heap.objs.size;rw[sz];exact Nat.succ_ne_self _
 ·show(s.heap.push _).objs.size≠l;rw[sz];exact Nat.ne_of_gt (Nat.lt_succ_of_lt lt)
 ·refine hQ v h' tk hv λx o e=>hk x o (Nat.ne_of_lt (Heap.lt_size e)) ?_ (g2 x o e);show x≠(s.heap.push _).objs.size;rw[sz];exact Nat.ne_of_lt (Nat.lt_succ_of_lt (Heap.lt_size e))
end
end Mx
namespace L2
open PySem PySem.Spec PyProof.Rows PySem.W
section
variable {X:Cx}{e d:Expr}{ta td:TE}{p kpos pos:Pos}
noncomputable def BY (K:Frag)(ta td:TE):TE:=λσ H Q=>aQ ta tW σ H λvs H1=>aQ td tW σ H1 λds H2=>∃(l:Addr)(ns:List Int)(dv:V),vs=[.ref l]/\ds=[dv]/\ba K H2 l (ns.map V.int)/\Q (match Mx.jt none ns with|none=>dv|some m=>.int m) H2
theorem yG (ha:PE X e ta)(hd:PE X d td)(hc:X.calm=true)(hg:Gl X "max")(hm:X.mg "max"=none)(hs:dN e=false:=by rfl):PE X (.Call (.Name "max" p) [e] [⟨some "default",d,kpos⟩] pos) (BY X.K ta td):=by
 intro pins s σ H Q I h;refine wpAny_Call_Name_kw (dO I hg hm (by rfl) ?_ (by decide) (by decide));refine callWith_builtin_kwB (by rw[aV hs];rfl) rfl (evalArgs_kw2 rfl ?_ (aV hs));refine bA (aj ha ag hs pos pins s σ H _ I h) λus s1 z'=>?_;obtain⟨vs,H1,I1,r1,h1⟩:=z';refine bA (aa8 (nm:=some "default") (kpos:=kpos) hd adA pos pins s1 σ H1 _ I1 h1) λws s2 z'=>?_;obtain⟨ds,H2,I2,r2,l,ns,dv,e1,e2,hl,q⟩:=z';subst e1 e2;obtain⟨u,rfl,ru⟩:=eO r1
 cases(show u=Value.ref l from ru)
 obtain⟨w',rfl,GD⟩:=eO r2;obtain⟨its,rv,pl,hz⟩:=I2.list hl;show wpAny _ X.A (call (.builtin "max") [.ref l] [(Str.ofString "default",w')]) _ _ s2;refine Mx.AE (I.ok.hd hc) pl.isList (by simpa using oC rv) λv h' tk hv hk=>?_;refine⟨_,H2,I2.kept (t':=tk) hk,?_,q⟩
 cases hb:Mx.jt none ns with
 |none=>rw[hb] at hv;cases hv;exact GD
 |some m=>rw[hb] at hv;obtain⟨t,rfl⟩:=hv;exact⟨t,rfl⟩
end
end L2
namespace K26
open PySem L2 PySem.W Nm Srt
noncomputable abbrev qS:Stmt:=bq (aJ 53) 5
noncomputable abbrev qB:Stmt:=bq (aJ 53) 8
structure acK (C CF:Addr)(H:Hp)(s:Addr)(p:Int)(ts:List Tm):Prop where
 ex:∃dx fl F6 D zs,H s=some (.ins C dx (xm fl D))/\H fl=some (.ins CF F6 (dR p))/\H D=some (.lst zs)/\bZ H zs ts
noncomputable def oF (C CF:Addr):Sp:=λvs H Q _=>∃(s dx fl D:Addr),vs=[.ref s]/\H s=some (.ins C dx (xm fl D))/\Q (.ref fl) H
theorem v7:yd ["self"] ["self"] (ak qS):=c9 (by decide +kernel)
variable {P:zO}{w:World}{K:PySem.W.Frag}{mg:yN}{base:Heap}
theorem ug {f C CF:Addr}{fd:vH}(F:xR K "field" "Sum.field" qS f fd)(c:yw K mg C):Ef P w K mg base (aO P w) 1 f fd ["self"] (oF C CF):=by
 refine F.okN v7 (λvs H Q E h=>?_) (λFV A outer s H vs Q E hr h=>?_)
 ·obtain⟨s,dx,fl,D,rfl,_⟩:=h;rfl
 ·obtain⟨s0,dx,fl,D,rfl,hs,q⟩:=h;exact⟨_,au (ay (dF (pv 0) rfl)),_,rfl,s0,C,dx,_,_,rfl,hs,c.cl,c.nF,rfl,q⟩
end K26
namespace L2
open PySem PySem.Spec PyProof.Rows
theorem lx (k v target iter:Expr)(ifs:wW)(scope:Scope)(pos:Pos)(it:Value)(d:Addr)(env:Env):
 compTurn (.DictComp k v [⟨target,iter,ifs,0⟩] scope pos) 0 it (.ref d) env=(do
  standAt iter.pos
  match <-pyNext it with
  |none=>pure (.done .next)
  |some x =>
   letOwnedTupleGo target it x
   assign target env x
   let mut ok:=true
   for c in ifs do
    if ok then ok <-isTrue c env (eval c env)
   if ok then
    (do
     let kv <-eval k env
     let vv <-holding [kv] (eval v env)
     standAt {k.pos with endLine:=v.pos.endLine,endCol:=v.pos.endCol}
     holding [kv,vv] (dictSet d kv vv))
   again (.compLoop (.DictComp k v [⟨target,iter,ifs,0⟩] scope pos) 0 it (.ref d) env)):=by rfl
section
variable {prog:zO}{w:World}{A:Around}{R:Result->Shared->Prop}{s:Fp}
theorem ly {k v target iter:Expr}{ifs:wW}{scope:Scope}{pos:Pos}{it:Value}{d:Addr}{env:Env}(I:Nat->Shared->Prop)
 (turn:∀n s,I n s->wpAny (model prog w) A (pyNext it) (λr s₁=>match r with
  |none=>R (.ok .next) s₁
  |some x=>wpAny (model prog w) A (letOwnedTupleGo target it x) (λ_ s₁=>wpAny (model prog w) A (assign target env x) (λ_ s₂ =>
   wpAny (model prog w) A (forIn ifs true λc r=>if r=true then do let ok <-isTrue c env (eval c env);pure (ForInStep.yield ok) else pure (ForInStep.yield r)) (λok s₃ =>
    if ok=true then wpAny (model prog w) A (eval k env) (λy s₄=>wpAny (model prog w) A (eval v env) (λz s₅ =>
     wpAny (model prog w) A (dictSet d y z) (λ_ s₆=>∃m,m<n/\I m s₆) (λ_ _=>False) s₅) (λ_ _=>False) s₄) (λ_ _=>False) s₃
    else ∃m,m<n/\I m s₃) (λ_ _=>False) s₂) (λ_ _=>False) s₁) (λ_ _=>False) s₁) (λ_ _=>False) s)
 (n:Nat)(h:I n s):
 codeAny (model prog w) A (.compLoop (.DictComp k v [⟨target,iter,ifs,0⟩] scope pos) 0 it (.ref d) env) R s:=by
 refine codeAny_loop rfl I (λn s hI=>?_) n h;show wpAny _ A ((compTurn (.DictComp k v [⟨target,iter,ifs,0⟩] scope pos) 0 it (.ref d) env).onRaise (λx=>do noteFrame x env;theTreesLotGoes x)) _ _ s;refine wpAny_noted ?_;rw[lx];refine wpAny_bind (wpAny_standAt (wpAny_bind (wpAny_mono (turn n s hI) (λr s₁ h₁=>?_) λ_ _ z=>False.elim z)))
 cases r with
 |none=>exact wpAny_pure h₁
 |some x =>
  refine wpAny_bind (wpAny_mono h₁ (λ_ Sd Lb=>?_) λ_ _ z=>False.elim z);refine wpAny_bind (wpAny_mono Lb (λ_ s₂ h₂=>wpAny_bind (wpAny_mono h₂ (λok s₃ h₃=>?_) λ_ _ z=>False.elim z)) λ_ _ z=>False.elim z)
  cases ok with
  |false=>exact wpAny_pure ⟨rfl,h₃⟩
  |true =>
   refine wpAny_bind (wpAny_bind (wpAny_mono h₃ (λy s₄ h₄=>?_) λ_ _ z=>False.elim z));refine wpAny_bind (wpAny_holding (wpAny_mono h₄ (λz s₅ h₅=>?_) λ_ _ z=>False.elim z));refine wpAny_bind (wpAny_standAt (wpAny_holding (wpAny_mono h₅ (λ_ s₆ h₆=>?_) λ_ _ z=>False.elim z)));exact wpAny_pure ⟨rfl,h₆⟩
theorem fE {k v target iter ifs rest scope pos it acc env}
 (h0:codeAny (model prog w) A (.compLoop (.DictComp k v (⟨target,iter,ifs,0⟩::rest) scope pos) 0 it acc env) R s)
 (h:wpAny (model prog w) A (pyIter it) (λLx s'=>codeAny (model prog w) A (.compLoop (.DictComp k v (⟨target,iter,ifs,0⟩::rest) scope pos) 0 Lx acc env) R s')
  (notedBy (model prog w) A env λx s'=>R (.error x) s') s):
 codeAny (model prog w) A (.compStart (.DictComp k v (⟨target,iter,ifs,0⟩::rest) scope pos) 0 it acc env) R s:=by
 refine codeAny_of_tree ?_;show wpAny _ _ ((compStart (.DictComp k v (⟨target,iter,ifs,0⟩::rest) scope pos) 0 it acc env).onRaise (λx=>do noteFrame x env;standAt theWindowsPlace)) _ _ s;refine wpAny_notedAt ?_;unfold compStart;show wpAny _ _ (ask>>=_) _ _ s;refine wpAny_bind (wpAny_askSetting (wpAny_ite ?_))
 split
 ·first
   |exact wpAny_bind (wpAny_pure (wpAny_pure (And.intro rfl h0)))
   |exact wpAny_pure (And.intro rfl h0)
 ·first
   |exact wpAny_bind (wpAny_rule (wpAny_bind (wpAny_standAt (wpAny_bind (wpAny_mono h (λLx s' h'=>wpAny_pure (And.intro rfl h')) λ_ _ x=>x)))))
   |(refine wpAny_bind (wpAny_rule ?_);show wpAny _ _ (standAt iter.pos>>=_) _ _ s;exact wpAny_bind (wpAny_standAt (wpAny_bind (wpAny_mono h (λLx s' h'=>wpAny_pure (And.intro rfl h')) λ_ _ x=>x))))
end
section
variable {X:Cx}{pins:List (Addr×Obj)}{σ:St}{H:Hp}{s:Fp}
theorem CC {A:Around}{E:oP}{Q:Unit->Shared->Prop}{a b:Addr}{FQ:List (List Key×V)}{ks:List Key}{y:V}{z:Value}(hu:A.units<cLine)(I:Inv X pins σ H s)(e:H a=some (.dT FQ))(eb:H b=some (.tup (ks.map kV)))
 (hl:FQ.length<sizeLine)(rz:aD y z)(h:∀s',Inv X pins σ (upd H a (.dT (dm FQ ks y))) s'->Q () s'):wpAny (model X.prog X.w) A (dictSet a (.ref b) z) Q E s:=by
 obtain⟨z0,hd,xs,rel,dd⟩:=we I.hok e
 have hz:xs.length<=sizeLine:=by rw[<-Paired.length rel];exact z0
 refine wpAny_dictSet_heap (knd:=tupleKind (bz X.prog X.w)) (hsz:=hz) hu (gP I.hok eb) dd λh' IB hs=>h _ ?_;obtain⟨qq,es,ep,hq,h2,h3,h4,_,h5⟩:=IB
 have Hh:(dm FQ ks y).length<=sizeLine:=by have:=eA FQ ks y;omega
 refine iq I (by rw[e];exact True.intro) hs ⟨qq,hq⟩ ⟨Hh,hd,_,(rel.put ks eb rz).keeps λc ys ec=>?_,qq,es,ep,hq,h2,h3,h4,h5⟩;rw[ai (kQ ec e (λz=>nomatch z))];exact ec
end
section
variable {X:Cx}{tg iter ke ve:Expr}{ifs:wW}{scope osc:Scope}{pos:Pos}{N:nO}{nl:Nat}{js:List Nat}
noncomputable def wZ (J:It)(g:TG)(tt:TT)(tk tv:TE)(D:Addr)(W:Nat->Nat->St->Hp->Prop)(Fin:Hp->Prop):Prop :=
 ∀i m σ' H',W i m σ' H'->((J.stop i H'/\Fin H') \/
  (J.go i H'/\∀x H2,J.yld i H' x H2->g x σ' H2 λσ3 H3=>tt σ3 H3 λb H4 =>
   if b=true then tk σ3 H4 λy H5=>tv σ3 H5 λz H6=>∃p ks FQ,y=.ref p/\H6 p=some (.tup (ks.map kV))/\H6 D=some (.dT FQ)/\FQ.length<sizeLine/\∃m',m'<m/\W (i+1) m' σ3 (upd H6 D (.dT (dm FQ ks z)))
   else ∃m',m'<m/\W (i+1) m' σ3 H4))
theorem jh {pins:List (Addr×Obj)}{σ:St}{H:Hp}{s:Fp}{J:It}{it:Addr}{fp:List Addr}{tn:Nat->Heap->Prop}{g:TG}{tt:TT}{tk tv:TE}{Fin:Addr->Hp->Prop}
 {E:oP}{RR:Value->Addr->Result->Shared->Prop}
 (S:A7 X N nl js osc scope)(hc:X.calm=true)(hu:X.A.units<cLine)(hg:∀C fp s H,PG (bQ X N scope C fp s H) tg g)(ht:∀C fp s H,uS (bQ X N scope C fp s H) ifs tt)(hk:∀C fp s H,PE (bQ X N scope C fp s H) ke tk)(hv:∀C fp s H,PE (bQ X N scope C fp s H) ve tv)
 (I:Inv X pins σ H s)(T:Turn X.prog X.w X.K tg J fp it tn)(st:tn 0 s.heap)(f:∀b∈fp,cq X pins H b)
 (w0:∀D,H D=none->∃W:Nat->Nat->St->Hp->Prop,(∃m,W 0 m (σC nl js σ) (upd H D (.dT [])))/\wZ J g tt tk tv D W (Fin D))
 (MX:∀(D C:Addr)(H':Hp)(s':Fp)(m:yN),Inv X pins σ H' s'->s'.heap.Ns C m->cq X pins H' C->Fin D H'->RR (.ref D) C (.ok .next) s'):
 wpAny (model X.prog X.w) X.A newDict (λacc s₃=>wpAny (model X.prog X.w) X.A (newFunctionEnv scope X.env.globals (dn scope.names X.env) [] X.env.qual none .none (some X.env)) (λHC s₄ =>
  codeAny (model X.prog X.w) X.A (.compStart (.DictComp ke ve [⟨tg,iter,ifs,0⟩] scope pos) 0 (.ref it) acc {HC with scope:=relabel scope X.env}) (RR acc HC.locals) s₄) E s₃) E s:=by
 have Iu:∀b∈fp,b<s.heap.objs.size:=λb hb=>by
  obtain⟨o,e,_⟩:=T.obj 0 _ st b hb;exact Heap.lt_size e
 have hn:=I.hok.fresh (Nat.le_refl s.heap.objs.size);have I1:=I.laid (a:=s.heap.objs.size) (o:=.dT []) (h':=s.heap.push {cls:=.type "dict",data:=.dict #[]}) (t':=s.toks) (λ_ _ q=>Heap.get?_push_of_some _ q) (Nat.le_refl _) (ky s.heap I.big);obtain⟨W,w0,hW⟩:=w0 _ hn;unfold newDict;refine wpAny_newObj_type (wpAny_newFunctionEnv S.cell (by intro y hy;simp at hy) (λh₁ GY GI=>?_) S.kind);dsimp only at GY GI |-;generalize Jk:s.heap.push {cls:=.type "dict",data:=.dict #[]}=H2 at GY GI I1 |-
 have hC:H2.objs.size=s.heap.objs.size+1:=by rw[<-Jk,Heap.size_push]
 have HN:s.heap.objs.size<=H2.objs.size:=by rw[hC];exact Nat.le_succ _
 have f1:∀b∈fp,cq X pins (upd H s.heap.objs.size (.dT [])) b:=λb hb=>by
  obtain⟨q1,q2⟩:=f b hb;exact⟨by rw[ai (Nat.ne_of_lt (Iu b hb))];exact q1,q2⟩
 have S5:∀b o,s.heap.get? b=some o->H2.get? b=some o:=λb o e=>Jk▸Heap.get?_push_of_some _ e;have old:∀b o,H2.get? b=some o->h₁.get? b=some o:=λb o e=>GI.extBut b o (Nat.ne_of_lt (Heap.lt_size e)) (Heap.get?_push_of_some _ e);have M4:tn 0 H2:=T.keep _ _ _ st λb _ o e=>S5 b o e
 have Gy:∀y∈scope.names,y.2=.free->∃c,X.env.cells.lookup y.1=some c:=λy hy hf=>by
  have z:=S.free y hy hf;rw[<-S.out] at z;exact I.ok.has y.1 z
 have sub:∀x c,(dn scope.names X.env).lookup x=some c->X.env.cells.lookup x=some c:=λx c e=>ig Gy e
 have Jz:∀b∈fp,b∉dz X.stack:=λb hb z=>by
  rcases List.mem_cons.mp (I.aao b z) with q|q
  ·exact(f b hb).2.1 q
  ·exact(f b hb).2.2.1 q
 have Nz:∀b∈fp,b<H2.objs.size:=λb hb=>Nat.lt_of_lt_of_le (Iu b hb) HN
 have IE:∀{H':Hp},(∀b∈fp,H' b=none)->∀b∈fp,cq (bQ X N scope H2.objs.size fp {s with heap:=H2} (upd H s.heap.objs.size (.dT []))) [] H' b:=λ{H'} hn b hb =>
  ⟨hn b hb,Nat.ne_of_lt (Nz b hb),Jz b hb,.inl hb,λx c e=>(f b hb).2.2.2.2.1 x c (sub x c e),λp hp=>absurd (show p∈([]:List (Addr×Obj)) from hp) (by simp)⟩
 have ik:∀s₃:Shared,s₃={s with heap:=h₁,toks:=s.toks+([]:List (Str×Value)).length} →
  codeAny (model X.prog X.w) X.A (.compLoop (.DictComp ke ve [⟨tg,iter,ifs,0⟩] scope pos) 0 (.ref it) (.ref s.heap.objs.size) (compEnvC scope (dn scope.names X.env) H2.objs.size X.env))
   (RR (.ref s.heap.objs.size) H2.objs.size) s₃:=by
  rintro s₃ rfl;obtain⟨m0,w0⟩:=w0
  have I0:Inv (bQ X N scope H2.objs.size fp {s with heap:=H2} (upd H s.heap.objs.size (.dT []))) [] (σC nl js σ) (upd H s.heap.objs.size (.dT [])) {s with heap:=h₁,toks:=s.toks+([]:List (Str×Value)).length}:=
   i5 (s:={s with heap:=H2}) S I1 f1 Nz (Nat.le_refl _) old GY
  refine ly (λn s'=>∃i σ' H',Inv (bQ X N scope H2.objs.size fp {s with heap:=H2} (upd H s.heap.objs.size (.dT []))) [] σ' H' s'/\tn i s'.heap/\(∀b∈fp,H' b=none)/\W i n σ' H') ?_ m0
   ⟨0,σC nl js σ,_,I0,T.keep _ _ _ M4 λb _ o e=>old b o e,λb hb=>(f1 b hb).1,w0⟩
  rintro n s' ⟨i,σ',H',I',GG,Kd,w'⟩
  rcases hW i n σ' H' w' with⟨stop,fin⟩|⟨go,step⟩
  ·refine wpAny_mono (T.done (bQ X N scope H2.objs.size fp {s with heap:=H2} (upd H s.heap.objs.size (.dT []))) rfl rfl rfl hc i _ s' σ' H' (λ_ _=>False) I' (IE Kd) GG stop) (λr s1 z'=>?_) λ_ _ z=>z;obtain⟨hr,I2⟩:=z';subst hr;have I3:Inv X pins σ H' s1:=I1.aa7 I2.os I2.base I2.hok I2.bare λb hb=>⟨(f1 b hb).2.2.2.1,(f1 b hb).2.1,(f1 b hb).2.2.2.2.1,(f1 b hb).2.2.2.2.2⟩;obtain⟨mm,M0,_⟩:=I2.loc;exact MX _ _ H' s1 mm I3 M0 (I1.aaK (Nat.le_refl _) I2.free) fin
  ·refine wpAny_mono (T.item (bQ X N scope H2.objs.size fp {s with heap:=H2} (upd H s.heap.objs.size (.dT []))) rfl rfl rfl hc i _ s' σ' H' (λ_ _=>False) I' (IE Kd) GG go) (λr s1 z'=>?_) λ_ _ z=>z;obtain⟨u,hr,h4⟩:=z';subst hr;refine wpAny_mono h4 (λ_ s2 z'=>?_) λ_ _ z=>z;obtain⟨x,Ke,I2,r2,y2,GX,M1⟩:=z';have M3:=I2.pinned (IE M1) (T.obj _ _ GX);refine wpAny_mono (hg _ _ _ _ _ s2 σ' Ke x u _ M3 r2 (step x Ke y2)) (λ_ s3 z'=>?_) λ_ _ z=>z;obtain⟨σ3,H3,I3,q3⟩:=z';refine wpAny_mono (ht _ _ _ _ _ s3 σ3 H3 _ I3 q3) (λok s4 z'=>?_) λ_ _ z=>z;obtain⟨H4,I4,q4⟩:=z'
   have back:∀{s5:Fp}{H5:Hp},Inv (bQ X N scope H2.objs.size fp {s with heap:=H2} (upd H s.heap.objs.size (.dT []))) ([]++di fp s2.heap) σ3 H5 s5->tn (i+1) s5.heap/\∀b∈fp,H5 b=none:=λ{s5 H5} I5 =>
    ⟨T.keep _ _ _ GX λb hb o e=>(I5.pin (b,o) (List.mem_append_right _ (List.mem_append_right _ (cg hb e)))).1,λb hb=>by
     obtain⟨o,e,d⟩:=T.obj _ _ GX b hb
     exact(I5.pin (b,o) (List.mem_append_right _ (List.mem_append_right _ (cg hb e)))).2.1⟩
   cases ok with
   |false =>
    rw[if_neg Bool.false_ne_true] at q4 |-;obtain⟨m',hm,w4⟩:=q4;exact⟨m',hm,i+1,σ3,H4,I4.aai,(back I4).1,(back I4).2,w4⟩
   |true =>
    rw[if_pos rfl] at q4 |-;refine wpAny_mono (hk _ _ _ _ _ s4 σ3 H4 _ I4 q4) (λv s5 z'=>?_) λ_ _ z=>z;obtain⟨y,H5,I5,r5,q5⟩:=z';refine wpAny_mono (hv _ _ _ _ _ s5 σ3 H5 _ I5 q5) (λv2 s6 z'=>?_) λ_ _ z=>z;obtain⟨z,H6,I6,r6,p,ks,FQ,ey,ep,eD,hl,m',hm,w6⟩:=z';subst ey
    cases(show v=Value.ref p from r5)
    exact CC (X:=bQ X N scope H2.objs.size fp {s with heap:=H2} (upd H s.heap.objs.size (.dT []))) hu I6 eD ep hl r6 λs7 I7=>⟨m',hm,i+1,σ3,_,I7.aai,(back I7).1,(back I7).2,w6⟩
 exact fE (ik _ rfl) (T.self X.A 0 _ _ _ (T.keep _ _ _ M4 λb _ o e=>old b o e) (ik _ rfl))
noncomputable def qh (wi:TI)(g:TG)(tt:TT)(tk tv:TE)(nl:Nat)(js:List Nat):TE:=λσ H Q=>wi σ H λJ H1=>∀D,H1 D=none →
 ∃W:Nat->Nat->St->Hp->Prop,(∃m,W 0 m (σC nl js σ) (upd H1 D (.dT [])))/\wZ J g tt tk tv D W λH'=>Q (.ref D) H'
theorem oh {wi:TI}{g:TG}{tt:TT}{tk tv:TE}(hu:X.A.units<cLine)(S:A7 X N nl js osc scope)(hc:X.calm=true)(hi:PI X tg iter wi)(hg:∀C fp s H,PG (bQ X N scope C fp s H) tg g)(ht:∀C fp s H,uS (bQ X N scope C fp s H) ifs tt)
 (hk:∀C fp s H,PE (bQ X N scope C fp s H) ke tk)(hv:∀C fp s H,PE (bQ X N scope C fp s H) ve tv)(hs:∀x,foldedSetIterable iter X.env x=pure x:=by intro _;rfl):
 PE X (.DictComp ke ve [⟨tg,iter,ifs,0⟩] scope pos) (qh wi g tt tk tv nl js):=by
 intro pins s σ H Q I h;show wpAny _ X.A (comprehension (.DictComp ke ve [⟨tg,iter,ifs,0⟩] scope pos) scope X.env _ newDict false (eval iter X.env)) _ _ s;refine wpAny_comprehension_free (use:=none) rfl hs (dW S I) S.kind S.names (bA (hi pins s σ H _ I h) λv s1 h1=>bA h1 λKb s2 h2=>?_);obtain⟨it,fp,tn,J,H2,e,I2,T,GX,f2,w0⟩:=h2;subst e;refine jh (Fin:=λD H'=>Q (.ref D) H') (RR:=λacc C=>compPost (model X.prog X.w) X.A X.xe none (EP X pins σ Q) acc C) S hc hu hg ht hk hv I2 T GX f2 w0 ?_;intro D C H' s' m I3 hn fC fin;exact⟨m,hn,λh' sb=>⟨.ref D,_,cm I3 fC sb,rfl,fin⟩⟩
end
end L2
namespace ZS
open PySem PyProof.Rows
end ZS
namespace L2
open PySem PySem.Spec PyProof.Rows
end L2
namespace ZT
open PySem PySem.Calls PyProof.Rows PySem.Spec
end ZT
namespace L2
open PySem PySem.Spec PyProof.Rows PySem.W
mutual
noncomputable def i3 (K:Frag)(H:Hp):PyData->V->Prop
 | .none,v=>v=.non
 | .bool b,v=>v=.bl b
 | .int i,v=>v=.int i
 | .str x,v=>v=.str x
 | .list ds,v=>∃a xs,v=.ref a/\ba K H a xs/\iu K H ds xs
 | .tuple ds,v=>∃a xs,v=.ref a/\bx K H a xs/\iu K H ds xs
 | .dict FQ,v=>FQ=[]/\∃a,v=.ref a/\Rd H a (.dK [])
noncomputable def iu (K:Frag)(H:Hp):List PyData->List V->Prop
 |[],xs=>xs=[]
 |d::ds,xs=>∃y ys,xs=y::ys/\i3 K H d y/\iu K H ds ys
end
noncomputable def pF (K:Frag):Prop:=∃o,K.lookup sysModules=some o/\o.cls=.type "dict"
section
variable {X:Cx}{pins:List (Addr×Obj)}{σ:St}{H:Hp}{s:Fp}
theorem yH (I:Inv X pins σ H s)(hS:pF X.K){a:Addr}{o:Obj}(e:s.heap.get? a=some o){T:String}(hc:o.cls=.type T)(hT:T ≠ "dict"):a≠sysModules:=by
 rintro rfl;obtain⟨o',l,c⟩:=hS;have e':=I.kIn _ _ l;rw[e] at e'
 cases e'
 rw[hc] at c
 injection c with c
 exact hT c
mutual
theorem pj (I:Inv X pins σ H s)(hS:pF X.K):∀(d:PyData)(v:V)(u:Value),i3 X.K H d v->aD v u->∃as,Reads s.heap u d as/\sysModules∉as
 | .none,v,u,h,r=>by
   unfold i3 at h;subst h
   cases(show u=Value.none from r)
   exact⟨_,.none,by simp⟩
 | .bool b,v,u,h,r=>by
   unfold i3 at h;subst h
   cases(show u=Value.bool b from r)
   exact⟨_,.bool b,by simp⟩
 | .int i,v,u,h,r=>by
   unfold i3 at h;subst h;obtain⟨t,rfl⟩:=(show ∃t,u=Value.int i t from r);exact⟨_,.int i t,by simp⟩
 | .str x,v,u,h,r=>by
   unfold i3 at h;subst h;obtain⟨t,rfl⟩:=(show ∃t,u=Value.str x t from r);exact⟨_,.str x t,by simp⟩
 | .list ds,v,u,h,r=>by
   unfold i3 at h;obtain⟨a,xs,rfl,hl,hd⟩:=h
   cases(show u=Value.ref a from r)
   obtain⟨its,rv,⟨o,n,e,hc,_,NA⟩,_⟩:=I.list hl;obtain⟨as,ra,na⟩:=fX I hS ds xs its hd rv
   exact⟨_,.list e hc NA (by simpa using ra),by
    have:=yH I hS e hc (by decide);simp only[List.mem_cons,not_or]
    exact⟨Ne.symm this,na⟩⟩
 | .tuple ds,v,u,h,r=>by
   unfold i3 at h;obtain⟨a,xs,rfl,hl,hd⟩:=h
   cases(show u=Value.ref a from r)
   obtain⟨its,rv,⟨o,e,hc,n,NA⟩,_⟩:=I.tuple hl;obtain⟨as,ra,na⟩:=fX I hS ds xs its hd rv;exact⟨_,.tuple e hc NA (by simpa using ra),na⟩
 | .dict FQ,v,u,h,r=>by
   unfold i3 at h;obtain⟨rfl,a,rfl,hl⟩:=h
   cases(show u=Value.ref a from r)
   obtain⟨_,Gw,vs,kv,⟨o,es,ep,e,hx,NA,_,pr,_⟩⟩:=il I.hok hl
   have hv:vs=[]:=by cases kv;rfl
   subst hv
   have Xj:es.toList=[]:=by
    cases hq:es.toList with
    |nil=>rfl
    |cons x l=>rw[hq] at pr;cases pr
   refine⟨[a]++[]++[],.dict e hx.1 NA (by rw[Xj];exact .nil) (by rw[Xj];exact .nil),?_⟩;simp only[List.append_nil,List.mem_singleton];intro q;rw[q] at Gw;simp at Gw
theorem fX (I:Inv X pins σ H s)(hS:pF X.K):∀(ds:List PyData)(vs:List V)(us:xF),iu X.K H ds vs->aR vs us->∃as,ReadsAll s.heap us ds as/\sysModules∉as
 |[],vs,us,h,r=>by
  unfold iu at h;subst h
  cases r
  exact⟨_,.nil,by simp⟩
 |d::ds,vs,us,h,r=>by
  unfold iu at h;obtain⟨y,ys,rfl,h1,h2⟩:=h
  cases r with
  |cons r1 r2 =>
   obtain⟨as,ra,na⟩:=pj I hS d y _ h1 r1;obtain⟨bs,rb,nb⟩:=fX I hS ds ys _ h2 r2;exact⟨_,.cons ra rb,by simp only[List.mem_append,not_or];exact⟨na,nb⟩⟩
end
theorem pM {k:Nat}(hr:Fq k X.A)(hS:pF X.K):dE X (.builtin "repr") (λxs H Q=>∃a d,xs=[.ref a]/\i3 X.K H d (.ref a)/\d.showable=true/\d.depth<=60/\d.shown.length<=sizeLine/\Q (.str d.shown) H):=by
 intro pins s σ H vs us Q I r h;obtain⟨a,d,rfl,hd,hs,Xk,hz,q⟩:=h;obtain⟨u,rfl,ru⟩:=eO r
 cases(show u=Value.ref a from ru)
 obtain⟨as,ra,na⟩:=pj I hS d _ _ hd (show aD (.ref a) (Value.ref a) from rfl);refine repr_of_reads' ra hs (λ_=>na) hr.gd (by have:=hr.units;omega) (λ_ _ e=>e) (λh' u tk hk=>?_) hz;exact⟨.str d.shown,H,I.kept (t':=tk) hk,⟨u,rfl⟩,q⟩
end
mutual
noncomputable def wt:PyData->Nat
 | .none=>4
 | .bool _=>5
 | .int _=>1921
 | .str x=>(reprText x).length
 | .list xs=>AA xs+2
 | .tuple xs=>AA xs+3
 | .dict _=>2
noncomputable def AA:List PyData->Nat
 |[]=>0
 |x::xs=>wt x+2+AA xs
end
theorem je:∀(ts:nO)(k:Nat)(acc:Str),(textFrom k acc ts).length<=acc.length+(ts.map λt=>t.length+2).sum
 |[],k,acc=>by simp[textFrom]
 |t::ts,k,acc=>by
  unfold textFrom;have h:=je ts (k+1) (acc++(if k>0 then ", " else "":String)++t)
  have e:(acc++((if k>0 then ", " else "":String):Str)++t).length<=acc.length+2+t.length:=by
   rw[Str.length_append,Str.length_append]
   have:(((if k>0 then ", " else "":String):Str)).length<=2:=by
    split
    ·decide
    ·decide
   omega
  simp only[List.map_cons,List.sum_cons];omega
theorem rq:∀(ts:nO),(Str.join ", " ts).length<=(ts.map λt=>t.length+2).sum
 |[]=>by
  show(Str.empty).length<=_;simp[Str.empty,Str.length]
 |[t]=>by
  show t.length<=_;simp
 |t::u::ts=>by
  show(t++(", ":String)++Str.join ", " (u::ts)).length<=_;rw[Str.length_append,Str.length_append];have h:=rq (u::ts)
  have e:(((", ":String):Str)).length=2:=by decide
  simp only[List.map_cons,List.sum_cons] at h |-;omega
mutual
theorem pf:∀(d:PyData)(K:Frag)(H:Hp)(v:V),i3 K H d v->d.showable=true->d.shown.length<=wt d
 | .none,_,_,_,_,_=>by unfold PyData.shown wt;decide
 | .bool b,_,_,_,_,_=>by unfold PyData.shown wt;cases b <;> decide
 | .int i,_,_,_,_,h=>by
   unfold PyData.showable at h;unfold PyData.shown wt;exact int_text_len_1921 (of_decide_eq_true h)
 | .str x,_,_,_,_,_=>by unfold PyData.shown wt;exact Nat.le_refl _
 | .list xs,K,H,v,r,h=>by
   unfold i3 at r;obtain⟨a,vs,_,_,r⟩:=r;unfold PyData.showable at h;unfold PyData.shown wt listText;have e:=je (PyData.shownAll xs) 0 (("[":String):Str);have f:=fT xs K H vs r h;rw[Str.length_append]
   have l1:((("[":String):Str)).length=1:=by decide
   have l2:((("]":String):Str)).length=1:=by decide
   omega
 | .tuple xs,K,H,v,r,h=>by
   unfold i3 at r;obtain⟨a,vs,_,_,r⟩:=r;unfold PyData.showable at h;unfold PyData.shown wt tupleText;have e:=rq (PyData.shownAll xs);have f:=fT xs K H vs r h;rw[Str.length_append,Str.length_append]
   have l1:((("(":String):Str)).length=1:=by decide
   have l2:((((if(PyData.shownAll xs).length==1 then ",)" else ")":String)):Str)).length<=2:=by
    split
    ·decide
    ·decide
   omega
 | .dict FQ,K,H,v,r,h=>by
   unfold i3 at r;obtain⟨rfl,_⟩:=r;unfold PyData.shown wt;decide
theorem fT:∀(ds:List PyData)(K:Frag)(H:Hp)(vs:List V),iu K H ds vs->PyData.showableAll ds=true->((PyData.shownAll ds).map λt=>t.length+2).sum<=AA ds
 |[],_,_,_,_,_=>by unfold PyData.shownAll AA;simp
 |d::ds,K,H,vs,r,h=>by
  unfold iu at r;obtain⟨y,ys,_,r1,r2⟩:=r;unfold PyData.showableAll at h;rw[Bool.and_eq_true] at h;unfold PyData.shownAll AA;have a:=pf d K H y r1 h.1;have b:=fT ds K H ys r2 h.2;simp only[List.map_cons,List.sum_cons];omega
end
theorem jF {X:Cx}{k:Nat}(hr:Fq k X.A)(hS:pF X.K):dE X (.builtin "repr") (λxs H Q=>∃a d,xs=[.ref a]/\i3 X.K H d (.ref a)/\d.showable=true/\d.depth<=60/\wt d<=16777216/\Q (.str d.shown) H):=by
 intro pins s σ H vs us Q I r h;obtain⟨a,d,e,hd,hs,Xk,hz,q⟩:=h;exact pM hr hS pins s σ H vs us Q I r ⟨a,d,e,hd,hs,Xk,by rw[sizeLine_eq];exact Nat.le_trans (pf d _ _ _ hd hs) hz,q⟩
noncomputable def yr (K:Frag):List V->Hp->VK->Prop:=λxs H Q=>∃p ys,xs=[.ref p]/\(ba K H p ys\/bx K H p ys)/\Q (.int ys.length) H
section
variable {X:Cx}
theorem tU {K:Frag}(hK:X.K=K):dE X (.builtin "len") (yr K):=by subst hK;exact bJ
theorem zh {K:Frag}(hK:X.K=K):Ay X (xE K):=by subst hK;exact bK
variable {tg l:Expr}{tl:TE}
end
end L2
namespace K26
open PySem L2 PySem.W Nm Srt
noncomputable abbrev Fh:Stmt:=(aJ 19)
noncomputable abbrev AD:Stmt:=(aJ 69)
noncomputable def wA (CN:Addr):Sp:=λvs H Q E=>∃(x:V)(T:String),vs=[x]/\Th H x T/\((∃i:Int,x=.int i/\0<=i/\i<=300/\Q (.int i) H)\/((∀i:Int,x=.int i->¬(0<=i/\i<=300))/\E (.ref CN) none H))
theorem Ee:yd DC DC (ak Fh):=c9 (by decide +kernel)
theorem BB:yd xV xV (ak AD):=c9 (by decide +kernel)
noncomputable def qJ (i:Int)(FQ:List (List Key×V)):List (List Key×V):=FQ.filter λkv=>decide ((kv.1.length:Int)<=i)
theorem uj (i:Int)(FQ:List (List Key×V))(kv:List Key×V):qJ i (FQ++[kv])=if decide ((kv.1.length:Int)<=i)=true then qJ i FQ++[kv] else qJ i FQ:=by
 unfold qJ;rw[List.filter_append]
 split
 ·rename_i h;simp[h]
 ·rename_i h;simp[h]
theorem xc {FQ:List (List Key×V)}{k:List Key}{v:V}(h:k∉FQ.map (·.1)):dm FQ k v=FQ++[(k,v)]:=by
 unfold dm;rw[if_neg];intro z;obtain⟨kv,hm,e⟩:=List.any_eq_true.mp z;exact h (List.mem_map.mpr ⟨kv,hm,by simpa using e⟩)
noncomputable def zC (CN:Addr):Sp:=λvs H Q E=>∃(wd:Addr)(x:V)(T:String)(FQ:List (List Key×V)),vs=[.ref wd,x]/\H wd=some (.dT FQ)/\(FQ.map (·.1)).Nodup/\FQ.length<=1000/\Th H x T /\
 ((∃i:Int,x=.int i/\0<=i/\i<=300/\∀H' D,SameBut wd H H'->Q (.ref D) H')\/((∀i:Int,x=.int i->¬(0<=i/\i<=300))/\E (.ref CN) none H))
variable {P:zO}{w:World}{K:PySem.W.Frag}{mg:yN}{base:Heap}
variable {f:Addr}{fd:vH}
theorem CO {fw CN:Addr}{G4:vH}{Xl:Tok}(F:xR K "checked_degree" "checked_degree" Fh f fd)(FW:Ef P w K mg base (aO P w) 1 fw G4 uI t6)(bW:L2.az K G4 uI [])(mW:mg "is_whole"=some (.ref fw))(kW:keepIn K (.ref fw)=true)
 (S6:mg "MOST_DEGREE"=some (.int 300 Xl))(mN:mg "NoDegree"=some (.ref CN))(qN:og K CN Bw tO=true):Ef P w K mg base (aO P w) 2 f fd DC (wA CN):=by
 refine F.okE Ee (λvs H Q E h=>?_) (λFV A outer s H vs Q E hr h=>?_)
 ·obtain⟨x,T,rfl,_⟩:=h;rfl
 ·obtain⟨x,T,rfl,th,h⟩:=h;have Gb:Fq 1 _:=hr.mono (by decide)
  refine⟨_,(ao (bc (PW.pt (eX (bR (b8 (av FW Gb (by rfl) mW kW bW .nil af (@aj _ _ _ _ _ (pv 0) ag rfl)))) (dA (bR (j2 fK fK ah (pv 0) (cz (by rfl) S6 (show aD (.int 300) (.int 300 Xl) from⟨_,rfl⟩))))))) (au (kd PySem.F.excBase_ValueError qN rfl gO (by rfl) mN (@aj _ _ _ _ _ cK ag rfl))) aF)
   (au (ay (pv 0)))),?_⟩
  refine⟨_,rfl,x,T,rfl,th,_,rfl,?_⟩
  cases th with
  |int i =>
   refine bD ?_
   have bad:¬(0<=i/\i<=300)->E (.ref CN) none H:=λz=>by
    rcases h with⟨j,e,h1,h2,_⟩|⟨_,e⟩
    ·cases e;exact absurd ⟨h1,h2⟩ z
    ·exact e
   refine⟨_,rfl,_,_,rfl,rfl,_,rfl,?_⟩;refine cp (λh0=>?_) (λh0=>?_)
   ·have h0:0<=i:=by simpa using h0
    refine⟨_,_,rfl,rfl,_,rfl,?_⟩;refine cp (λh1=>?_) (λh1=>?_)
    ·have h1:¬i<=300:=by simpa using h1
     exact⟨by decide,bad λz=>h1 z.2⟩
    ·have h1:i<=300:=by simpa using h1
     rcases h with⟨j,e,_,_,q⟩|⟨n,_⟩
     ·cases e;exact⟨_,rfl,q⟩
     ·exact absurd ⟨h0,h1⟩ (n i rfl)
   ·have h0:¬0<=i:=by simpa using h0
    exact⟨_,rfl,aW ⟨by decide,bad λz=>h0 z.1⟩⟩
  |_ =>
   refine aW (aW ⟨by decide,?_⟩)
   rcases h with⟨i,e,_⟩|⟨_,e⟩
   ·cases e
   ·exact e
theorem AS {fc CN:Addr}{Hr:vH}(F:xR K "cut" "cut" AD f fd)(m_len:mg "len"=none)(Ly:Ef P w K mg base (aO P w) 2 fc Hr DC (wA CN))(Lz:L2.az K Hr DC [])(LA:mg "checked_degree"=some (.ref fc))(LB:keepIn K (.ref fc)=true):Ef P w K mg base (aO P w) 3 f fd xV (zC CN):=by
 refine F.okE BB (λvs H Q E h=>?_) (λFV A outer s H vs Q E hr h=>?_)
 ·obtain⟨wd,x,T,FQ,rfl,_⟩:=h;rfl
 ·obtain⟨wd,x,T,FQ,rfl,hw,nd,kl,th,h⟩:=h;have Gb:Fq 1 _:=hr.mono (by decide);have Gz:Fq 2 _:=hr.mono (by decide);have F5:=(hr.units:_+64<cLine)
  replace F5:=Nat.lt_of_le_of_lt (Nat.le_add_right _ 64) F5
  refine⟨_,(ao (fG (av Ly Gz (by rfl) LA LB Lz .nil cD (@aj _ _ _ _ _ (pv 1) ag rfl)))
   (au (ay (oh F5 (g:=(gD K 2 (bX (aZ 0) (bX (aZ 1) DH)))) (N:=["product","number","degree"]) (nl:=2) (js:=[1]) (osc:=ak AD) ⟨rfl,rfl,by decide +kernel,by decide +kernel,by decide +kernel,rfl,(.cons ⟨rfl,by decide +kernel⟩ .nil),by decide +kernel⟩ rfl
    (iy (pv 0))
    (λCq fq sq Hq=>(cf (X:=bQ _ ["product","number","degree"] _ Cq fq sq Hq) rfl (aC (aA (X:=bQ _ ["product","number","degree"] _ Cq fq sq Hq) (i:=0) (by show(["product","number","degree"]:nO).Nodup;decide +kernel) rfl (Or.inl rfl) (Or.inr rfl)) (aC (aA (X:=bQ _ ["product","number","degree"] _ Cq fq sq Hq) (i:=1) (by show(["product","number","degree"]:nO).Nodup;decide +kernel) rfl (Or.inl rfl) (Or.inr rfl)) bH))))
    (λCq fq sq Hq=>(fA (@aI _ _ _ _ _ _ _ _ fK (aB (tU (K:=K) rfl) (by rfl) m_len PySem.boot_len (@aj _ _ _ _ _ (pv 0) ag rfl)) (pv 2) (aK _))))
    (λCq fq sq Hq=>(pv 0))
    (λCq fq sq Hq=>(pv 1)))))),?_⟩
  refine⟨_,rfl,x,T,rfl,th,?_⟩
  rcases h with⟨i,rfl,h0,h1,q⟩|⟨no,e⟩
  ·refine .inl ⟨i,rfl,h0,h1,?_⟩;refine⟨_,rfl,wd,FQ,rfl,.inr ⟨hw,λo D hD=>?_⟩⟩
   have sw:SameBut wd H (upd H wd (jm o FQ)):=λb u e nb=>by rw[ai nb];exact e
   have hw:upd H wd (jm o FQ) wd=some (jm o FQ):=ae;generalize upd H wd (jm o FQ)=H0 at sw hw hD |-;have sD:=aq (o:=.dT []) hD;refine⟨λj m σ' H'=>m=FQ.length-j/\j<=FQ.length/\ax H0 H'/\H' D=some (.dT (qJ i (FQ.take j)))/\∃o1 o2,σ'=[o1,o2,some (.int i)],⟨FQ.length,by simp,Nat.zero_le _,sD,ae,none,none,rfl⟩,?_⟩;rintro j m σ' H' ⟨rfl,hj,sH,hd,o1,o2,rfl⟩
   by_cases FY:j<FQ.length
   ·refine .inr ⟨⟨FY,sH _ _ hw⟩,λx H2 hx=>?_⟩;obtain⟨pp,b,k,v,hk,Nf,hb,rfl,rfl⟩:=hx;have sP:ax H' (upd H' pp (.tup [.ref b,v])):=aq Nf;refine⟨pp,_,rfl,bx.of ae,rfl,_,_,rfl,_,_,rfl,rfl,?_⟩;refine⟨_,rfl,b,_,rfl,.inr (bx.of (sP _ _ hb)),_,rfl,_,_,rfl,rfl,_,rfl,?_⟩
    have Hv:FQ.take (j+1)=FQ.take j++[(k,v)]:=by rw[List.take_add_one,hk];rfl
    rw[List.length_map];have cs:=uj i (FQ.take j) (k,v);rw[<-Hv] at cs
    have S7:k∉(qJ i (FQ.take j)).map (·.1):=λz=>by
     have z2:k∈(FQ.take j).map (·.1):=(List.filter_sublist.map _).subset z
     have e2:(FQ.take (j+1)).map (·.1)=(FQ.take j).map (·.1)++[k]:=by rw[Hv,List.map_append];rfl
     have n2:((FQ.take (j+1)).map (·.1)).Nodup:=nd.sublist ((List.take_sublist _ _).map _);rw[e2,List.nodup_append] at n2;exact n2.2.2 k z2 k (by simp) rfl
    cases hz:decide ((k.length:Int)<=i) with
    |true =>
     rw[show decide (((k,v):List Key×V).1.length<=i)=true from hz,if_pos rfl] at cs;refine aW ⟨_,rfl,_,rfl,b,k,_,rfl,sP _ _ hb,sP _ _ hd,?_,FQ.length-(j+1),by omega,rfl,FY,?_,?_,_,_,rfl⟩
     ·have:(qJ i (FQ.take j)).length<=(FQ.take j).length:=List.length_filter_le _ _;rw[List.length_take] at this;exact Nat.lt_of_le_of_lt (by omega:_<=1000) (by decide)
     ·intro c u e;rw[ai (ar e hD)];exact sP _ _ (sH _ _ e)
     ·rw[xc S7,<-cs];exact ae
    |false =>
     rw[show decide (((k,v):List Key×V).1.length<=i)=false from hz,if_neg Bool.false_ne_true] at cs;refine bD ⟨FQ.length-(j+1),by omega,rfl,FY,sH.trans sP,?_,_,_,rfl⟩;rw[cs];exact sP _ _ hd
   ·have ej:j=FQ.length:=by omega
    subst ej;exact .inl ⟨⟨by omega,sH _ _ hw⟩,q _ D λb u e nb=>sH _ _ (sw _ _ e nb)⟩
  ·exact .inr ⟨no,e⟩
noncomputable def gJ (t:Tm):Int:=t.1.getLastD 0+1
noncomputable def i6 (ts:List Tm):Int:=(Mx.jt none ((ts.filter λt=>!t.1.isEmpty).map gJ)).getD 0
noncomputable def qQ (C:Addr):Sp:=λvs H Q _=>∃(s dx fl D:Addr)(zs:List V)(ts:List Tm),vs=[.ref s]/\H s=some (.ins C dx (xm fl D))/\H D=some (.lst zs)/\bZ H zs ts/\ts.length<4000/\(∀t∈ts,t.1.length<4000)/\∀H',ax H H'->Q (.int (i6 ts)) H'
theorem yE:yd ["self"] ["self"] (ak qB):=c9 (by decide +kernel)
theorem zf {ks:List Int}(h:ks≠[]):mR (ks.map V.int) (-1)=some (.int (ks.getLastD 0)):=by
 have hl:0<ks.length:=List.length_pos_iff.mpr h;unfold mR xy;rw[List.length_map,if_neg (by decide),if_pos (by omega)];show(ks.map V.int)[((-1:Int)+(ks.length:Int)).toNat]?=_
 have e:((-1:Int)+(ks.length:Int)).toNat=ks.length-1:=by omega
 rw[e,List.getElem?_map,List.getElem?_eq_getElem (by omega)]
 have g:ks.getLastD 0=ks[ks.length-1]'(by omega):=by
  rw[List.getLastD_eq_getLast?,List.getLast?_eq_getElem?,List.getElem?_eq_getElem (by omega)];rfl
 rw[g];rfl
variable {C:Addr}
theorem xC (F:xR K "reach" "Sum.reach" qB f fd)(c:yw K mg C)(m_max:mg "max"=none):Ef P w K mg base (aO P w) 1 f fd ["self"] (qQ C):=by
 refine F.okN yE (λvs H Q E h=>?_) (λFV A outer s H vs Q E hr h=>?_)
 ·obtain⟨s,dx,fl,D,zs,ts,rfl,_⟩:=h;rfl
 ·obtain⟨s0,dx,fl,D,zs,ts,rfl,hs,hD,hz,hl,Hh,q⟩:=h
  refine⟨_,au (ay (yG (cI (g:=gD K 2 (bX (aZ 0) (bX (aZ 1) DH))) (N:=["product","number"]) (nl:=2) (js:=[]) (osc:=ak qB) ⟨rfl,rfl,by decide +kernel,by decide +kernel,by decide +kernel,rfl,.nil,by decide +kernel⟩ rfl
   (cE (dF (pv 0) rfl))
   (λC fp s H=>(cf (X:=bQ _ ["product","number"] _ C fp s H) rfl (aC (aA (X:=bQ _ ["product","number"] _ C fp s H) (i:=0) (by show(["product","number"]:nO).Nodup;decide +kernel) rfl (Or.inl rfl) (Or.inr rfl)) (aC (aA (X:=bQ _ ["product","number"] _ C fp s H) (i:=1) (by show(["product","number"]:nO).Nodup;decide +kernel) rfl (Or.inl rfl) (Or.inr rfl)) bH))))
   (λC fp s H=>fA (show PT _ _ (λσ H Q=>cC 0 σ H λx H'=>∃k,Ak K x H' k/\Q k H') from j9 (pv 0) (λ_=>rfl)))
   (λC fp s H=>(@aH _ _ _ _ _ _ _ _ cV (@bo _ _ _ _ _ _ _ (show Ay _ (xE K) from bK) (pv 0) (vT pZ ah) (λ_ _=>rfl)) ah))) ah rfl (by rfl) m_max)),?_⟩
  refine⟨_,rfl,s0,C,dx,_,_,rfl,hs,c.cl,c.nT,rfl,D,rfl,⟨zs,ba.of hD⟩,?_⟩;refine⟨λi m xs σ' H'=>m=zs.length-i/\i<=zs.length/\ax H H'/\xs=(((ts.take i).filter λt=>!t.1.isEmpty).map gJ).map V.int/\∃o1 o2,σ'=[o1,o2],⟨zs.length,by simp,Nat.zero_le _,ax.refl _,rfl,none,none,rfl⟩,?_⟩;rintro i m xs σ' H' ⟨rfl,hi,sH,rfl,o1,o2,rfl⟩;have zl:=hz.length;have Lq:=sH _ _ hD;refine⟨?_,?_⟩
  ·rw[List.length_map,List.length_map];exact Nat.lt_of_le_of_lt (List.length_filter_le _ _) (Nat.lt_of_le_of_lt (by simp;omega) (Nat.lt_trans hl (by decide)))
  by_cases FY:i<zs.length
  ·refine .inr ⟨⟨zs,zs[i],ba.of Lq,by simp[FY]⟩,λy H2 hy=>?_⟩;obtain⟨rfl,hy⟩:=hy;obtain⟨t,et,tr⟩:=cn hz (hy zs (ba.of Lq));obtain⟨a,pr,nu,rfl,ha,GV,HY⟩:=tr.keep (aG.of sH)
   have Hv:ts.take (i+1)=ts.take i++[t]:=by rw[List.take_add_one,et];rfl
   refine⟨a,_,rfl,bx.of ha,rfl,_,_,rfl,_,_,rfl,rfl,?_⟩;refine⟨_,rfl,!t.1.isEmpty,.inr (.inl ⟨_,bx.of GV,by simp⟩),?_⟩
   cases hb:t.1.isEmpty with
   |false =>
    have ne:t.1≠[]:=by intro z;rw[z] at hb;cases hb
    refine aW ⟨_,rfl,_,rfl,pr,_,-1,_,rfl,rfl,bx.of GV,zf ne,_,_,rfl,rfl,zs.length-(i+1),by omega,rfl,FY,sH,?_,_,_,rfl⟩;rw[Hv,List.filter_append];simp[hb,gJ]
   |true =>
    refine bD ⟨zs.length-(i+1),by omega,rfl,FY,sH,?_,_,_,rfl⟩;rw[Hv,List.filter_append];simp[hb]
  ·have ei:i=zs.length:=by omega
   subst ei;refine .inl ⟨⟨zs,ba.of Lq,Nat.le_refl _⟩,λL hL=>?_⟩;rw[zl,List.take_length];refine⟨L,_,.int 0,rfl,rfl,ba.of ae,?_⟩;have q':=q _ (λb u z=>by rw[ai (ar (sH _ _ z) hL)];exact sH _ _ z:ax H (upd H' L (.lst (((ts.filter λt=>!t.1.isEmpty).map gJ).map V.int))));unfold i6 at q';show Q _ (upd H' L (.lst (((ts.filter λt=>!t.1.isEmpty).map gJ).map V.int)));generalize upd H' L (.lst (((ts.filter λt=>!t.1.isEmpty).map gJ).map V.int))=H9 at q' |-;generalize Mx.jt none ((ts.filter λt=>!t.1.isEmpty).map gJ)=ob at q' |-
   cases ob <;> exact q'
noncomputable abbrev vw:Stmt:=(aJ 16)
noncomputable def oY:V->Bool
 | .int i=>decide (0<=i)&&decide (i<=1)
 |_=>false
noncomputable def zp:Option (List V)->Bool
 |none=>false
 |some xs=>xs.all oY
noncomputable def vj:Sp:=λvs H Q _=>∃x o,vs=[x]/\PX H x o/\∀H',ax H H'->Q (.bl (zp o)) H'
theorem A9:yd uI uI (ak vw):=c9 (by decide +kernel)
theorem yR {fw:Addr}{G4:vH}(F:xR K "is_row_of_bits" "is_row_of_bits" vw f fd)(FR:mg "isinstance"=none)(FX:mg "tuple"=none)(Gu:mg "all"=none)
 (FW:Ef P w K mg base (aO P w) 1 fw G4 uI t6)(bW:L2.az K G4 uI [])(mW:mg "is_whole"=some (.ref fw))(kW:keepIn K (.ref fw)=true):Ef P w K mg base (aO P w) 2 f fd uI vj:=by
 refine F.okN A9 (λvs H Q E h=>?_) (λFV A outer s H vs Q E hr h=>?_)
 ·obtain⟨x,o,rfl,_⟩:=h;rfl
 ·obtain⟨x,o,rfl,px,q⟩:=h;have Gb:Fq 1 _:=hr.mono (by decide)
  refine⟨_,au (ay (dB (aB aN (by rfl) FR (by rfl) (@aj _ _ _ _ _ (pv 0) (@aj _ _ _ _ _ (cH (by rfl) FX (by rfl) (show aD (.ty "tuple") (.type "tuple") from rfl)) ag rfl) rfl))
   (eF (aB (gh rfl) (by rfl) Gu (by rfl) (@aj _ _ _ _ _ (cI (N:=["bit"]) (nl:=1) (js:=[]) (osc:=ak vw) ⟨rfl,rfl,by decide +kernel,by decide +kernel,by decide +kernel,rfl,.nil,by decide +kernel⟩ rfl
    (qg (pv 0))
    (λC fp s H=>aA (i:=0) (by show(["bit"]:nO).Nodup;decide +kernel) rfl (Or.inl rfl) (Or.inr rfl))
    (λC fp s H=>ck)
    (λC fp s H=>(dB (av FW Gb (by rfl) mW kW bW .nil af (@aj _ _ _ _ _ (pv 0) ag rfl)) (eF (jU fK fK ah (pv 0) ah))))) ag rfl))))),?_⟩
  cases px with
  |@no x T th ne =>
   refine⟨_,rfl,x,.ty "tuple",_,_,_,rfl,rfl,th.ty,th.isTup,_,rfl,?_⟩;rw[decide_eq_false ne];exact bD (q _ (ax.refl _))
  |@tup a xs ha hl SF =>
   refine⟨_,rfl,.ref a,.ty "tuple",_,_,_,rfl,rfl,.of (.tup ha),rfl,_,rfl,aW ?_⟩;refine⟨_,rfl,a,rfl,⟨xs,bx.of ha⟩,?_⟩;refine⟨λi m ys σ' H'=>m=xs.length-i/\i<=xs.length/\ys=((xs.take i).map oY).map V.bl/\H=H'/\∃o,σ'=[o],⟨xs.length,by simp,Nat.zero_le _,by simp,rfl,none,rfl⟩,?_⟩;rintro i m ys σ' H' ⟨rfl,hi,rfl,rfl,o,rfl⟩;refine⟨Nat.lt_of_le_of_lt (by simp;omega) (Nat.lt_trans hl (by decide)),?_⟩
   by_cases FY:i<xs.length
   ·refine .inr ⟨⟨xs,xs[i],bx.of ha,by simp[FY]⟩,λy H2 hy=>?_⟩;obtain⟨rfl,hy⟩:=hy;have ey:=hy xs (bx.of ha);obtain⟨T,th⟩:=SF y (List.mem_of_getElem? ey)
    have e2:xs.take (i+1)=xs.take i++[y]:=by
     rw[List.take_add_one,ey];rfl
    have done:∀b,b=oY y->∃m',m'<xs.length-i/\m'=xs.length-(i+1)/\i+1<=xs.length/\((xs.take i).map oY).map V.bl++[V.bl b]=((xs.take (i+1)).map oY).map V.bl/\H2=H2/\∃o,([some y]:St)=[o]:=λb hb =>
     ⟨xs.length-(i+1),by omega,rfl,FY,by rw[e2,hb];simp,rfl,_,rfl⟩
    dsimp only[BX,aZ];refine aW ⟨_,rfl,y,T,rfl,th,_,rfl,?_⟩
    cases e:dH y with
    |false =>
     have z:oY y=false:=by cases y <;> first|rfl|cases e
     exact bD (done false z.symm)
    |true =>
     have z1:∃n,y=.int n:=by cases y <;> first|exact⟨_,rfl⟩|cases e
     obtain⟨n,rfl⟩:=z1;refine aW ⟨_,rfl,_,_,rfl,rfl,_,rfl,?_⟩;refine cp (λh=>?_) (λh=>?_)
     ·have h':decide (0<=n)=true:=h;exact⟨_,_,rfl,rfl,done _ (by show _=(decide (0<=n)&&decide (n<=1));rw[h',Bool.true_and])⟩
     ·have h':decide (0<=n)=false:=by simpa using h
      exact done false (by show _=(decide (0<=n)&&decide (n<=1));rw[h',Bool.false_and])
   ·have ei:i=xs.length:=by omega
    subst ei;refine .inl ⟨⟨xs,bx.of ha,Nat.le_refl _⟩,λD hD=>?_⟩;rw[List.take_length];refine⟨D,_,xs.map oY,rfl,ba.of ae,nk _,?_⟩
    have z:(xs.map oY).all id=zp (some xs):=by rw[List.all_map];rfl
    rw[z];exact q _ (aq hD)
structure DY (K:Frag)(mg:yN)(C:Addr):Prop where
 c:yw K mg C
 isC:((clsIn K C).isSome&&typeIn K (.ref C)==some (.type "type"))=true
 ca:findIn K (.ref C) "__class__"=some (some (.builtin "object.__class__"))
 sp:specialIn K (.builtin "object.__class__") "__get__"=some (some (.builtin "getset_descriptor.__get__"))
 tk:takesIn K (.builtin "object.__class__")=some true
 ob:mroIn K C (.type "object")=some true
variable {K:Frag}{mg:yN}{H:Hp}
theorem DY.ty (c:DY K mg C){p dx:Addr}{fs:List (Str×V)}(e:H p=some (.ins C dx fs)):DM K H (.ref p) (.ref C):=.of (.ins e c.c.cl c.ca c.sp c.tk c.ob)
theorem DY.is (c:DY K mg C):kitOne K (.ref C) (.ref C)=some true:=by
 unfold kitOne;rw[if_pos (by simp)]
variable {x:V}
theorem DY.no (c:DY K mg C){T:String}(h:Th H x T):kitOne K (.type T) (.ref C)=some false:=by
 show(if(Value.type T==Value.ref C)=true then some true else(if((clsIn K C).isSome&&typeIn K (.ref C)==some (.type "type"))=true then subIn K (.type T) (.ref C) else none))=some false;rw[if_neg (by intro z;cases beq_iff_eq.mp z),if_pos c.isC]
 cases h <;> rfl
theorem yt :notFirst K C (.ref C)=true:=by unfold notFirst;simp
noncomputable abbrev Cs:Stmt:=(aJ 57)
structure SW (C CF:Addr)(H:Hp)(s:Addr)(p:Int)(ts:List Tm):Prop where
 r:acK C CF H s p ts
 fp:FP p
 few:ts.length<64
 pl:∀t∈ts,t.1.length<4000
noncomputable def eu (H H':Hp):Prop:=∀b u,H b=some u->(∀C dx,u≠.ins C dx [])->H' b=some u
variable {H':Hp}
theorem eu.of (s:ax H H'):eu H H':=λb u e _=>s b u e
theorem eu.but {s dx:Addr}(h:SameBut s H H')(e:H s=some (.ins C dx [])):eu H H':=λb u eb n=>h b u eb λz=>by
 rw[z,e] at eb
 cases eb
 exact n _ _ rfl
theorem Th.aaz {T:String}(h:Th H x T)(k:eu H H'):Th H' x T:=by
 cases h with
 |non=>exact .non
 |bl b=>exact .bl b
 |int i=>exact .int i
 |str y=>exact .str y
 |lst e=>exact .lst (k _ _ e λ_ _ z=>by cases z)
 |tup e=>exact .tup (k _ _ e λ_ _ z=>by cases z)
 |dK e=>exact .dK (k _ _ e λ_ _ z=>by cases z)
theorem eu.aaD (k:eu H H'):aG H H':=λb xs e=>k b _ e λ_ _ z=>by cases z
variable {CF:Addr}
theorem SW.aaz {s:Addr}{p:Int}{ts:List Tm}(h:SW C CF H s p ts)(k:eu H H'):SW C CF H' s p ts:=by
 obtain⟨dx,fl,F6,D,zs,h1,h2,h3,h4⟩:=h.r.ex;exact⟨⟨dx,fl,F6,D,zs,k _ _ h1 (λ_ _ z=>by injection z with _ _ z;exact absurd z (by simp[xm])),k _ _ h2 (λ_ _ z=>by injection z with _ _ z;exact absurd z (by simp[dR])),k _ _ h3 (λ_ _ z=>by cases z),bZ.keep h4 k.aaD⟩,h.fp,h.few,h.pl⟩
inductive WX (C CF:Addr)(p n:Int)(H:Hp):V->Bool->Prop where
 |sum {s:Addr}{p':Int}{ts:List Tm}:SW C CF H s p' ts->WX C CF p n H (.ref s) (decide (p'=p)&&decide (i6 ts<=n))
 |oth {x:V}{T:String}:Th H x T->WX C CF p n H x false
theorem WX.aaz {p n:Int}{b:Bool}(h:WX C CF p n H x b)(k:eu H H'):WX C CF p n H' x b:=by
 cases h with
 |sum s=>exact .sum (s.aaz k)
 |oth t=>exact .oth (t.aaz k)
noncomputable def zj (C CF:Addr):Sp:=λvs H Q _=>∃(fl F6:Addr)(p n:Int)(y:V)(b:Bool),vs=[.ref fl,.int n,y]/\H fl=some (.ins CF F6 (dR p))/\WX C CF p n H y b/\∀H',ax H H'->Q (.bl b) H'
theorem CK:yd ED ED (ak Cs):=c9 (by decide +kernel)
theorem Aj {fe ff fr:Addr}{Xm Xn Xo:vH}(F:xR K "is_wish" "is_wish" Cs f fd)(c:DY K mg C)(cF:oO K mg CF)(FR:mg "isinstance"=none)
 (FE:Ef P w K mg base (aO P w) 1 fe Xm pJ (C9 CF))(bE:L2.az K Xm pJ [])(nE:findIn K (.ref CF) "__eq__"=some (some (.ref fe)))(iE:isFn K (.ref fe)=true)
 (ZU:Ef P w K mg base (aO P w) 1 ff Xn ["self"] (oF C CF))(ZV:L2.az K Xn ["self"] [])(ZW:Meth K C "field" ff)
 (ZX:Ef P w K mg base (aO P w) 1 fr Xo ["self"] (qQ C))(ZY:L2.az K Xo ["self"] [])(ZZ:Meth K C "reach" fr):
 Ef P w K mg base (aO P w) 2 f fd ED (zj C CF):=by
 refine F.okN CK (λvs H Q E h=>?_) (λFV A outer s H vs Q E hr h=>?_)
 ·obtain⟨fl,F6,p,n,y,b,rfl,_⟩:=h;rfl
 ·obtain⟨fl,F6,p,n,y,b,rfl,hf,hw,q⟩:=h;have Gb:Fq 1 _:=hr.mono (by decide);refine⟨_,(au (ay (dB (aB aN (by rfl) FR (by rfl) (@aj _ _ _ _ _ (pv 2) (@aj _ _ _ _ _ (cz (by rfl) c.c.mgC (show aD (.ref C) (.ref C) from rfl)) ag rfl) rfl)) (dB (@dC _ _ _ _ _ _ _ _ (wq nE iE FE Gb bE af) (dM (pv 2) c.c.cl ZW ZU Gb ZV .nil af) (pv 0) (aK _)) (eF (@dC _ _ _ _ _ _ _ _ fK (dM (pv 2) c.c.cl ZZ ZX Gb ZY .nil af) (pv 1) (aK _))))))),?_⟩
  cases hw with
  |oth th=>exact⟨_,rfl,y,.ref C,_,_,_,rfl,rfl,th.ty,c.no th,_,rfl,bD (q _ (ax.refl _))⟩
  |@sum s p' ts S =>
   obtain⟨dx,RC,NB,D,zs,h1,h2,h3,h4⟩:=S.r.ex;refine⟨_,rfl,.ref s,.ref C,_,_,_,rfl,rfl,c.ty h1,c.is,_,rfl,aW ?_⟩;refine⟨_,rfl,s,dx,_,rfl,h1,rfl,s,dx,RC,D,rfl,h1,_,rfl,?_⟩;refine⟨RC,NB,_,.ref CF,rfl,h2,cF.ty hf,yt,RC,NB,p',.ref fl,rfl,h2,.inl ⟨fl,F6,p,rfl,hf,_,rfl,?_⟩⟩
   cases e:decide (p'=p) with
   |false =>
    refine⟨_,rfl,bD ?_⟩;have q':=q _ (ax.refl _);rw[e] at q';exact q'
   |true =>
    refine⟨_,rfl,aW ?_⟩;refine⟨_,rfl,s,dx,_,rfl,h1,rfl,s,dx,RC,D,zs,ts,rfl,h1,h3,h4,Nat.lt_trans S.few (by decide),S.pl,λH' sH=>⟨_,rfl,_,_,rfl,rfl,?_⟩⟩;have q':=q _ sH;rw[e] at q';exact q'
end K26
namespace L2
open PySem PySem.Spec PyProof.Rows PySem.W
section
variable {X:Cx}{pins:List (Addr×Obj)}{σ:St}{H:Hp}{s:Fp}
theorem Inv.ack {T:Addr}{o:HO}(I:Inv X pins σ H s)(f:cq X pins H T)(h0:X.s₀.heap.objs.size<=T)(new:br X.prog X.w (upd H T o) s.heap T o):Inv X pins σ (upd H T o) s:=by
 obtain⟨fr,f1,f2,f3,f4,f5⟩:=f;refine⟨I.ok,I.os,I.bare,?_,I.loc,I.cell,?_,λx c e=>?_,λp hp=>?_,c7 I.hok fr new,I.len⟩
 ·have u:=I.base;refine⟨u.keep,u.slot,λb' o' e n hx=>?_,u.there,λb' xs e=>?_,λb' o' u' e=>?_,λb' ps e=>?_⟩
  ·have ne:b'≠T:=Nat.ne_of_lt (Nat.lt_of_lt_of_le (Heap.lt_size e) h0);rw[ai ne];exact u.free b' o' e n hx
  ·rw[ai (ar (u.aam b' xs e) fr)];exact u.aam b' xs e
  ·rw[ai (ar (u.aak b' o' u' e) fr)];exact u.aak b' o' u' e
  ·obtain⟨m,q⟩:=u.aas b' ps e;exact⟨m,by rw[ai (ar q fr)];exact q⟩
 ·rw[ai (Ne.symm f1)];exact I.free
 ·rw[ai (f4 x c e)];exact I.aag x c e
 ·obtain⟨e,n,r⟩:=I.pin p hp;exact⟨e,by rw[ai (f5 p hp)];exact n,r⟩
end
end L2
namespace PySem.F
end PySem.F
namespace L2
open PySem PySem.Spec PyProof.Rows PySem.W
end L2
namespace HH
open PySem PyProof.Rows
structure Zs (h:Heap)(z TI TO i1 i2 l1 l2:Addr)(k:Nat):Prop where
 hz:IsZip h z TI TO .none
 hTI:IsPair h TI (.ref i1) (.ref i2)
 JK:∃a b,IsPair h TO a b
 h1:h.IsListIter i1 l1 k
 h2:h.IsListIter i2 l2 k
theorem cG {h h':Heap}{i l:Addr}{k:Nat}(x:h.IsListIter i l k)(q:∀o,h.get? i=some o->h'.get? i=some o):h'.IsListIter i l k:=let⟨o,a,b⟩:=x;⟨o,q o a,b⟩
theorem iI (n a b:Nat)(ha:a<n)(hb:b<n):ZipApart (n+4) (n+2) (n+3) n (n+1) a b:=by
 refine⟨Zp.bf ?_,Zp.bf ?_,Zp.bf ?_,Zp.bf ?_,Zp.bf ?_,Zp.bf ?_,Zp.bf ?_,Zp.bf ?_,Zp.bf ?_,Zp.bf ?_,Zp.bf ?_,Zp.bf ?_,Zp.bf ?_,Zp.bf ?_,Zp.bf ?_,Zp.bf ?_,Zp.bf ?_,Zp.bf ?_⟩ <;> omega
section
variable {prog:zO}{w:World}{A:Around}{E:oP}{s:Fp}{z TI TO i1 i2 l1 l2:Addr}{k:Nat}{xs ys:va}{x y:Value}
theorem iN {Q:Option Value->Shared->Prop}(D:ZipApart z TI TO i1 i2 l1 l2)(Z:Zs s.heap z TI TO i1 i2 l1 l2 k)(GJ:s.heap.IsList l1 xs)(Hh:s.heap.IsList l2 ys)(hx:xs[k]?=some x)(hy:ys[k]?=some y)
 (hQ:∀h',IsZip h' z TI TO (rawInt s.heap.objs.size)->(∃a b,IsPair h' TO a b)->h'.IsListIter i1 l1 (k+1)->h'.IsListIter i2 l2 (k+1)->IsPair h' s.heap.objs.size x y →
  (∀c o,c ∉ [z,TO,i1,i2]->s.heap.get? c=some o->h'.get? c=some o)->Q (some (.ref s.heap.objs.size)) {s with heap:=h'}):
 wpAny (model prog w) A (pyNext (.ref z)) Q E s:=by
 obtain⟨hz,hTI,⟨a,b,JK⟩,h1,h2⟩:=Z
 exact wpAny_pyNext_zip_item D hz hTI JK h1 h2 GJ Hh hx hy λh' a1 a2 a3 a4 a5 a6 a7=>hQ h' a1 ⟨_,_,a2⟩ a3 a4 a5 λc o hc e=>by
  have Gd:c≠z/\c≠TO/\c≠i1/\c≠i2:=by simpa using hc
  exact a7 c o Gd.1 Gd.2.1 Gd.2.2.1 Gd.2.2.2 e
theorem gs {Q:Option Value->Shared->Prop}(hh:A.handled=none)(D:ZipApart z TI TO i1 i2 l1 l2)(Z:Zs s.heap z TI TO i1 i2 l1 l2 k)(GJ:s.heap.IsList l1 xs)(Hh:s.heap.IsList l2 ys)(IH:xs[k]?=none\/ys[k]?=none)
 (hQ:∀h',(∀c o,c ∉ [z,TO,i1,i2]->s.heap.get? c=some o->h'.get? c=some o)->Q none {s with heap:=h'}):wpAny (model prog w) A (pyNext (.ref z)) Q E s:=by
 obtain⟨hz,hTI,⟨a,b,JK⟩,h1,h2⟩:=Z
 exact wpAny_pyNext_zip_end hh D hz hTI JK h1 h2 GJ Hh IH λh' a7=>hQ h' λc o hc e=>by
  have Gd:c≠z/\c≠TO/\c≠i1/\c≠i2:=by simpa using hc
  exact a7 c o Gd.1 Gd.2.1 Gd.2.2.1 Gd.2.2.2 e
theorem sV {Q:oP}(GJ:s.heap.IsList l1 xs)(Hh:s.heap.IsList l2 ys)
 (h:∀h',Zs h' (s.heap.objs.size+4) (s.heap.objs.size+2) (s.heap.objs.size+3) s.heap.objs.size (s.heap.objs.size+1) l1 l2 0->(∀c o,s.heap.get? c=some o->h'.get? c=some o)->Q (.ref (s.heap.objs.size+4)) {s with heap:=h'}):
 wpAny (model prog w) A (call (.type "zip") [.ref l1,.ref l2]) Q E s :=
 call_zip_2 GJ Hh λh' a1 a2 a3 a4 a5 _ a7=>h h' ⟨a1,a2,⟨_,_,a3⟩,a4,a5⟩ a7
end
end HH
namespace L2
open PySem PySem.Spec PyProof.Rows PySem.W
noncomputable def Al (K:Frag)(a b:Addr):It :=
 ⟨λi H=>∃xs ys x y,ba K H a xs/\ba K H b ys/\xs[i]?=some x/\ys[i]?=some y,
  λi H v H'=>∃T x y,(∀xs,ba K H a xs->xs[i]?=some x)/\(∀ys,ba K H b ys->ys[i]?=some y)/\H T=none/\v=.ref T/\H'=upd H T (.tup [x,y]),
  λi H=>∃xs ys,ba K H a xs/\ba K H b ys/\(xs.length<=i\/ys.length<=i)⟩
theorem sX {P:zO}{w:World}{K:Frag}{elts:wW}{x1:Nat}{tp:Pos}{a b z TI TO i1 i2:Addr}(D:ZipApart z TI TO i1 i2 a b):
 Turn P w K (.Tuple elts x1 tp) (Al K a b) [z,TO,i1,i2,TI] z (λi h=>HH.Zs h z TI TO i1 i2 a b i) where
 mem:=by simp
 obj:=λi h st c hb=>by
  obtain⟨h1,h2,⟨_,_,h3⟩,⟨o4,h4,_,d4⟩,⟨o5,h5,_,d5⟩⟩:=st
  rcases(by simpa using hb:c=z\/c=TO\/c=i1\/c=i2\/c=TI) with q|q|q|q|q
  ·subst q;exact⟨_,h1,λv q=>by cases q⟩
  ·subst q;exact⟨_,h3,λv q=>by cases q⟩
  ·subst q;exact⟨_,h4,λv q=>by rw[d4] at q;cases q⟩
  ·subst q;exact⟨_,h5,λv q=>by rw[d5] at q;cases q⟩
  ·subst q;exact⟨_,h2,λv q=>by cases q⟩
 keep:=λi h h' st k=>by
  obtain⟨h1,h2,⟨_,_,h3⟩,h4,h5⟩:=st;exact⟨k z (by simp) _ h1,k TI (by simp) _ h2,⟨_,_,k TO (by simp) _ h3⟩,HH.cG h4 λo q=>k i1 (by simp) o q,HH.cG h5 λo q=>k i2 (by simp) o q⟩
 item:=by
  intro X hP hw hK hc i pins s σ H E I hf st hg;subst hP hw hK;obtain⟨xs,ys,x,y,hq,hr,hx,hy⟩:=hg;obtain⟨its,rv,p,hz⟩:=I.list hq;obtain⟨JM,GD,p',Mz⟩:=I.list hr;obtain⟨u,hu,ru⟩:=rv.get hx;obtain⟨v,hv,JN⟩:=GD.get hy;refine HH.iN D st p.isList p'.isList (x:=u) (y:=v) (by simpa using hu) (by simpa using hv) λh' q1 q2 q3 q4 q5 q6=>?_;refine⟨_,rfl,wpAny_letOwnedTupleGo_zip (s:={s with heap:=h'}) q1 λh2 q7 q8=>?_⟩;have lt:∀c o,s.heap.get? c=some o->c≠s.heap.objs.size:=λc o e=>Nat.ne_of_lt (Heap.lt_size e)
  have I1:Inv X pins σ H {s with heap:=h2}:=I.aaG (t':=s.toks) (ch:=[z,TO,i1,i2]) (λc o hc e=>(q8.2 c λq=>hc (by simp[q])).trans (q6 c o hc e)) λc hc=>hf c (by
   rcases(by simpa using hc:c=z\/c=TO\/c=i1\/c=i2) with q|q|q|q <;> simp[q])
  have nz:s.heap.objs.size≠z:=Ne.symm (lt z _ st.hz);have tup:h2.get? s.heap.objs.size=some {cls:=.type "tuple",data:=.seq #[u,v]}:=(q8.2 _ nz).trans q5;have fr:H s.heap.objs.size=none:=I.hok.fresh (Nat.le_refl _);have I2:=I.abI (xs:=[x,y]) (its:=[u,v]) I1 (Nat.le_refl _) tup (.cons ru (.cons JN .nil)) ic;have up:∀c o,c≠z->h'.get? c=some o->h2.get? c=some o:=λc o hc e=>(q8.2 c hc).trans e;obtain⟨aa,bb,q2⟩:=q2;have Ln:IsPair h' TI (.ref i1) (.ref i2):=q6 TI _ (by simp only[List.mem_cons,List.not_mem_nil,or_false,not_or];exact⟨D.TIz,D.TITO,D.TIi1,D.TIi2⟩) st.hTI
  refine⟨.ref s.heap.objs.size,_,I2,rfl,⟨s.heap.objs.size,x,y,λzs Lo=>by rw[I.aaB Lo hq];exact hx,λzs Lo=>by rw[I.aaB Lo hr];exact hy,fr,rfl,rfl⟩,
   ⟨q7,up _ _ D.TIz Ln,⟨aa,bb,up _ _ D.TOz q2⟩,HH.cG q3 λo e=>up _ o D.i1z e,HH.cG q4 λo e=>up _ o D.i2z e⟩,λc hb=>?_⟩
  have nb:c≠s.heap.objs.size:=by
   obtain⟨h1,h2,⟨_,_,h3⟩,⟨o4,h4,_,d4⟩,⟨o5,h5,_,d5⟩⟩:=st
   rcases(by simpa using hb:c=z\/c=TO\/c=i1\/c=i2\/c=TI) with q|q|q|q|q <;> subst q
   ·exact lt _ _ h1
   ·exact lt _ _ h3
   ·exact lt _ _ h4
   ·exact lt _ _ h5
   ·exact lt _ _ h2
  rw[ai nb];exact(hf c hb).1
 done:=by
  intro X hP hw hK hc i pins s σ H E I hf st hg;subst hP hw hK;obtain⟨xs,ys,hq,hr,hx⟩:=hg;obtain⟨its,rv,p,hz⟩:=I.list hq;obtain⟨JM,GD,p',Mz⟩:=I.list hr;have l1:=rv.length;have l2:=GD.length
  refine HH.gs (I.ok.hd hc) D st p.isList p'.isList (by
   rcases hx with q|q
   ·left;simp;omega
   ·right;simp;omega) λh' q=>⟨rfl,?_⟩
  exact I.aaG (t':=s.toks) (ch:=[z,TO,i1,i2]) q λc hc=>hf c (by
   rcases(by simpa using hc:c=z\/c=TO\/c=i1\/c=i2) with q|q|q|q <;> simp[q])
 self:=λ_ _ _ _ _ st h=>wpAny_pyIter_zip st.hz h
noncomputable def BJ (K:Frag)(ta tb:TE):TI:=λσ H R=>aQ ta (aQ tb tW) σ H λvs H1=>∃a b xs ys,vs=[.ref a,.ref b]/\ba K H1 a xs/\ba K H1 b ys/\R (Al K a b) H1
theorem yx {X:Cx}{ea eb:Expr}{ta tb:TE}{elts:wW}{x1:Nat}{tp p pos:Pos}(ha:PE X ea ta)(hb:PE X eb tb)(hg:Gl X "zip")(hm:X.mg "zip"=none)(hs:dN ea=false:=by rfl)(HX:dN eb=false:=by rfl):
 PI X (.Tuple elts x1 tp) (.Call (.Name "zip" p) [ea,eb] [] pos) (BJ X.K ta tb):=by
 intro pins s σ H R I h;refine wpAny_Call_Name_kw (dO I hg hm (by rfl) ?_ (by decide) (by decide));refine PyProof.Rows.callWith_type1 (bA (aj ha (aj hb ag HX) hs pos pins s σ H _ I h) λus s1 z'=>?_) (aV hs) (by rw[aV HX];rfl);obtain⟨vs,H1,I1,r1,a,b,xs,ys,hv,hq,hr,rr⟩:=z';subst hv;obtain⟨u,u',rfl,ru,JN⟩:=oq r1
 cases(show u=Value.ref a from ru)
 cases(show u'=Value.ref b from JN)
 obtain⟨its,rv,pl,hz⟩:=I1.list hq;obtain⟨JM,GD,Km,Mz⟩:=I1.list hr;refine HH.sV pl.isList Km.isList λh' q1 q4=>?_;have I2:Inv X pins σ H1 {s1 with heap:=h'}:=I1.kept (t':=s1.toks) q4
 have la:a<s1.heap.objs.size:=by obtain⟨o,e,_⟩:=pl.isList;exact Heap.lt_size e
 have lb:b<s1.heap.objs.size:=by obtain⟨o,e,_⟩:=Km.isList;exact Heap.lt_size e
 refine wpAny_pyIter_zip (s:={s1 with heap:=h'}) q1.hz ?_;refine⟨s1.heap.objs.size+4,[s1.heap.objs.size+4,s1.heap.objs.size+3,s1.heap.objs.size,s1.heap.objs.size+1,s1.heap.objs.size+2],_,Al X.K a b,H1,rfl,I2,sX (HH.iI _ _ _ la lb),q1,λc hc=>?_,rr⟩
 have Gs:s1.heap.objs.size<=c:=by
  rcases(by simpa using hc:c=s1.heap.objs.size+4\/c=s1.heap.objs.size+3\/c=s1.heap.objs.size\/c=s1.heap.objs.size+1\/c=s1.heap.objs.size+2) with q|q|q|q|q <;> rw[q]
  ·exact Nat.le_add_right _ _
  ·exact Nat.le_add_right _ _
  ·exact Nat.le_refl _
  ·exact Nat.le_add_right _ _
  ·exact Nat.le_add_right _ _
 exact I1.aaK Gs (I1.hok.fresh Gs)
end L2
namespace PySem.F
theorem abl:typeLookup (.type "zip") "__len__"=pure none:=by rw[typeLookup_type,builtinLookup_eq_fast];kernel_rfl
theorem abe:typeLookup (.type "zip") "__length_hint__"=pure none:=by rw[typeLookup_type,builtinLookup_eq_fast];kernel_rfl
end PySem.F
namespace L2
open PySem PySem.Spec PyProof.Rows PySem.W
noncomputable def oZ:TE:=λ_ _ _=>False
noncomputable def EC:TT:=λ_ _ _=>False
noncomputable def Af:TS:=λ_ _ _=>False
section
variable {X:Cx}{pins:List (Addr×Obj)}{σ:St}{A:Around}{H:Hp}{s:Fp}{E:oP}
theorem qZ {e:Expr}:PE X e oZ:=λ_ _ _ _ _ _ h=>h.elim
theorem vG {e:Expr}:PT X e EC:=λ_ _ _ _ _ _ h=>h.elim
theorem kY {st:Stmt}:PS X st Af:=λ_ _ _ _ _ _ h=>h.elim
theorem jN {st:uH}:hV X st Af:=λ_ _ _ _ _ _ h=>h.elim
theorem Bx {tg it:Expr}:PI X tg it (λ_ _ _=>False):=λ_ _ _ _ _ _ h=>h.elim
theorem uF {Q:oP}{a b z TI TO i1 i2:Addr}(hh:A.handled=none)(D:ZipApart z TI TO i1 i2 a b)(I:Inv X pins σ H s)(ha:ba X.K H a [])(hb:ba X.K H b [])(Z:HH.Zs s.heap z TI TO i1 i2 a b 0)(hf:∀c∈[z,TO,i1,i2],cq X pins H c)
 (q:∀s' D,Inv X pins σ (upd H D (.lst [])) s'->H D=none->Q (.ref D) s'):wpAny (model X.prog X.w) A (call (.type "list") [.ref z]) Q E s:=by
 obtain⟨its,rv,pa,_⟩:=I.list ha;obtain⟨its',Sz,pb,_⟩:=I.list hb
 cases rv
 cases Sz
 have hz:=Z.hz;have zl:z<s.heap.objs.size:=Heap.lt_size hz
 refine callType_codes (Q₁:=λobj s₁=>obj=.ref s.heap.objs.size/\s₁={s with heap:=s.heap.push {cls:=.type "list",data:=.seq #[]} }) F.called_list (F.typeCall_list_1 _) F.entry_list_init
  (code_list_new _ ⟨rfl,rfl⟩) λobj s₁ h₁=>?_
 obtain⟨rfl,rfl⟩:=h₁;have hS:(s.heap.push {cls:=.type "list",data:=.seq #[]}).get? s.heap.objs.size=some {cls:=.type "list",data:=.seq #[]}:=Heap.get?_push_size _ rfl;refine⟨⟨_,hS,rfl⟩,F.args_list_init_2 _ _,?_⟩;generalize Z0:s.heap.push {cls:=.type "list",data:=.seq #[]}=h1 at hS
 have kp:∀b o,s.heap.get? b=some o->h1.get? b=some o:=λb o q=>by rw[<-Z0];exact Heap.get?_push_of_some _ q
 generalize MC:s.heap.objs.size=S at hS |-
 have Xp:S≠z:=by rw[<-MC];exact Nat.ne_of_gt zl
 show wpAny _ _ (do let old <-Builtin.List.listItems (.ref S);Builtin.List.listUpdate (.ref S) (λ_=>#[]);letGo old.toList.reverse;Builtin.List.listExtendWith (.ref S) (.ref z) .none) _ _ _;refine wpAny_bind ?_;unfold Builtin.List.listItems;refine wpAny_bind (wpAny_seqItems hS rfl (wpAny_pure ?_));show wpAny _ _ (updateSeq S (λ_=>#[])>>=λ_=>letGo (#[]:va).toList.reverse>>=λ_=>Builtin.List.listExtendWith (.ref S) (.ref z) .none) _ _ _;refine wpAny_bind (wpAny_updateSeq hS rfl ?_);have Ta:=Heap.get?_update_self (Obj.mapSeq (λ_=>(#[]:va))) hS rfl
 have oth:∀b o,b≠S->s.heap.get? b=some o->(h1.update S (Obj.mapSeq (λ_=>(#[]:va)))).get? b=some o :=
  λb o hb e=>(Heap.get?_update_other _ _ (Ne.symm hb)).trans (kp b o e)
 generalize h1.update S (Obj.mapSeq (λ_=>(#[]:va)))=h2 at Ta oth;refine wpAny_bind (wpAny_letGo ?_);unfold Builtin.List.listExtendWith;have Xq:=oth _ _ (Ne.symm Xp) hz;have Tb:({s with heap:=h2}:Fp).TypeIs (.ref z) "zip":=⟨_,Xq,rfl⟩;refine wpAny_bind (wpAny_typeOf Tb ?_)
 have z1:Builtin.List.listSameRef (.ref S) (.ref z)=false:=by simp[Builtin.List.listSameRef,Xp]
 have z2:(Value.type "zip"==Value.type "list")=false:=by decide
 have z3:(Value.type "zip"==Value.type "tuple")=false:=by decide
 simp only[z1,z2,z3,Bool.or_false,Bool.false_eq_true,if_false];refine wpAny_bind (wpAny_pyIter_zip (s:={s with heap:=h2}) Xq ?_);refine wpAny_bind (wpAny_holding ?_);unfold Builtin.List.listLengthHint;refine wpAny_bind (wpAny_specialOf Tb F.abl ?_);show wpAny _ _ (specialOf (Value.ref z) (Str.ofString "__length_hint__")>>=_) _ _ _;refine wpAny_bind (wpAny_specialOf Tb F.abe ?_);refine wpAny_pure ?_
 show wpAny _ _ (rule "list.extend.makes-room">>=λ_=>Builtin.List.listTouch (.ref S)>>=λ_ =>
  again (.builtin "list.extend.loop" ⟨[.ref S,.ref z,.none],[]⟩)) _ _ _
 refine wpAny_bind (wpAny_rule ?_);refine wpAny_bind ?_;show wpAny _ _ (updateSeq S (·.push .none)>>=λ_=>updateSeq S (·.pop)) _ _ _;refine wpAny_bind (wpAny_updateSeq Ta rfl ?_);have Xr:=Heap.get?_update_self (Obj.mapSeq (·.push Value.none)) Ta rfl;refine wpAny_updateSeq (hz:=by seq_fits) Xr rfl ?_;have Xs:=Heap.get?_update_self (Obj.mapSeq (·.pop)) Xr rfl
 have NC:∀b o,b≠S->s.heap.get? b=some o->((h2.update S (Obj.mapSeq (·.push Value.none))).update S (Obj.mapSeq (·.pop))).get? b=some o :=
  λb o hb e=>(Heap.get?_update_other _ _ (Ne.symm hb)).trans ((Heap.get?_update_other _ _ (Ne.symm hb)).trans (oth b o hb e))
 generalize (h2.update S (Obj.mapSeq (·.push Value.none))).update S (Obj.mapSeq (·.pop))=h3 at Xs NC;have Ks:∀b o,s.heap.get? b=some o->h3.get? b=some o:=λb o q=>NC b o (by rw[<-MC];exact Nat.ne_of_lt (Heap.lt_size q)) q;have I3:Inv X pins σ H {s with heap:=h3}:=I.kept (t':=s.toks) Ks;have fr:H S=none:=I.hok.fresh (Nat.le_of_eq MC);have fS:cq X pins H S:=I.aaK (Nat.le_of_eq MC) fr
 have Z1:∀c∈[z,TO,i1,i2],c≠S:=λc hc=>by
  rw[<-MC];refine Nat.ne_of_lt ?_;obtain⟨h1,h2,⟨_,_,h3⟩,⟨o4,h4,_⟩,⟨o5,h5,_⟩⟩:=Z
  rcases(by simpa using hc:c=z\/c=TO\/c=i1\/c=i2) with q|q|q|q <;> rw[q]
  ·exact Heap.lt_size h1
  ·exact Heap.lt_size h3
  ·exact Heap.lt_size h4
  ·exact Heap.lt_size h5
 refine wpAny_pure ⟨plainId_quiet F.plain_extend_loop _,codeAny_builtin F.entry_extend_loop ?_⟩;rw[Around.under_plainId F.plain_extend_loop _];show wpAny _ _ (pyNext (.ref z)>>=_) _ _ _;refine wpAny_bind ?_
 have Z3:HH.Zs h3 z TI TO i1 i2 a b 0:=by
  obtain⟨h1,h2,⟨_,_,SX⟩,h4,h5⟩:=Z;exact⟨Ks _ _ h1,Ks _ _ h2,⟨_,_,Ks _ _ SX⟩,HH.cG h4 λo q=>Ks _ o q,HH.cG h5 λo q=>Ks _ o q⟩
 have la:h3.IsList a #[]:=let⟨o,e,r⟩:=pa.isList;⟨o,Ks _ _ e,r⟩;have lb:h3.IsList b #[]:=let⟨o,e,r⟩:=pb.isList;⟨o,Ks _ _ e,r⟩;refine HH.gs (s:={s with heap:=h3}) (xs:=#[]) (ys:=#[]) (by simp[hh]) D Z3 la lb (.inl rfl) λh' k=>wpAny_pure ⟨rfl,?_⟩;have I4:Inv X pins σ H {s with heap:=h'}:=I3.aaG (s:={s with heap:=h3}) (t':=s.toks) (ch:=[z,TO,i1,i2]) (λb o hb e=>k b o hb e) hf;have eS:h'.get? S=some _:=k S _ (λhc=>Z1 S hc rfl) Xs;exact q _ S (I4.ack fS (by rw[<-MC];exact I.sz) ⟨Nat.zero_le _,[],_,.nil,eS⟩) fr
noncomputable def ud (K:Frag)(ta tb:TE):TE:=λσ H Q=>aQ ta (aQ tb tW) σ H λvs H1=>∃a b,vs=[.ref a,.ref b]/\ba K H1 a []/\ba K H1 b []/\∀D,H1 D=none->Q (.ref D) (upd H1 D (.lst []))
theorem nQ {ea eb:Expr}{ta tb:TE}{p p2 pos LC:Pos}{K:Frag}(hK:X.K=K)(ha:PE X ea ta)(hb:PE X eb tb)(hc:X.calm=true)(Z2:Gl X "list")(Z4:X.mg "list"=none)(hg:Gl X "zip")(hm:X.mg "zip"=none)(hs:dN ea=false:=by rfl)(HX:dN eb=false:=by rfl):
 PE X (.Call (.Name "list" p) [.Call (.Name "zip" p2) [ea,eb] [] LC] [] pos) (ud K ta tb):=by
 subst hK;intro pins s σ H Q I h;refine wpAny_Call_Name_kw (dO I Z2 Z4 (by rfl) ?_ (by decide) (by decide));refine callWith_type1 ?_ (aV rfl) rfl;rw[aV rfl];show wpAny _ _ (spliced ((false,eval (.Call (.Name "zip" p2) [ea,eb] [] LC) X.env):: backTo pos (starEach [] X.env))) _ _ s;refine Calls.spliced_cons ?_;refine wpAny_Call_Name_kw (dO I hg hm (by rfl) ?_ (by decide) (by decide));refine PyProof.Rows.callWith_type1 (bA (aj ha (aj hb ag HX) hs LC pins s σ H _ I h) λus s1 z'=>?_) (aV hs) (by rw[aV HX];rfl);obtain⟨vs,H1,I1,r1,a,b,hv,hq,hr,rr⟩:=z';subst hv;obtain⟨u,u',rfl,ru,JN⟩:=oq r1
 cases(show u=Value.ref a from ru)
 cases(show u'=Value.ref b from JN)
 obtain⟨its,rv,pl,hz⟩:=I1.list hq;obtain⟨JM,GD,Km,Mz⟩:=I1.list hr;refine HH.sV pl.isList Km.isList λh' q1 q4=>Calls.spliced_nil ?_;have I2:Inv X pins σ H1 {s1 with heap:=h'}:=I1.kept (t':=s1.toks) q4
 have la:a<s1.heap.objs.size:=by obtain⟨o,e,_⟩:=pl.isList;exact Heap.lt_size e
 have lb:b<s1.heap.objs.size:=by obtain⟨o,e,_⟩:=Km.isList;exact Heap.lt_size e
 refine uF (I.ok.hd hc) (HH.iI _ _ _ la lb) I2 hq hr q1 (λc hc=>?_) λs' D J f=>⟨.ref D,_,J,rfl,rr D f⟩
 have Gs:s1.heap.objs.size<=c:=by
  rcases(by simpa using hc:c=s1.heap.objs.size+4\/c=s1.heap.objs.size+3\/c=s1.heap.objs.size\/c=s1.heap.objs.size+1) with q|q|q|q <;> rw[q]
  ·exact Nat.le_add_right _ _
  ·exact Nat.le_add_right _ _
  ·exact Nat.le_refl _
  ·exact Nat.le_add_right _ _
 exact I1.aaK Gs (I1.hok.fresh Gs)
noncomputable def acL:R2:=λx y H Q=>∃a b kb,x=.ref a/\y=.ref b/\Rd H a (.dT [])/\Rd H b (.dK kb)/\kb≠[]/\Q (.bl false) H
theorem Ai {k:Nat}(hr:Fq k X.A):gF X (compareOp .Eq) acL:=by
 intro pins s σ H x y v u Q I rx ry h;obtain⟨a,b,kb,rfl,rfl,ha,hb,Gw,q⟩:=h
 cases(show v=Value.ref a from rx)
 cases(show u=Value.ref b from ry)
 have hu:=hr.units;obtain⟨_,ma,za,ta,da⟩:=jV I.hok ha;obtain⟨_,mb,zb,tb,db⟩:=il I.hok hb
 cases ta
 have lb:zb.length≠0:=λz=>Gw (by
  have:=tb.length
  exact List.length_eq_zero_iff.mp (by omega))
 have Tc:=da.typeIs;have Xu:=db.typeIs;obtain⟨oa,es,ep,Z5,_,Li,Z6,_⟩:=da;obtain⟨ob,Ju,J9,Sl,_,Iz,_,Z7,_⟩:=db
 have ea:es.size=0:=by rw[<-Array.length_toList,Z6];rfl
 have eb:Ju.size≠0:=by rw[<-Array.length_toList,Z7.length];exact lb
 refine wpAny_richCompare_same_room (op:=.Eq) Tc Xu PySem.F.slot_dict_eq (wpAny_call_entry PySem.F.slot_dict_eq Tc PySem.F.entry_dict_eq ?_ (PySem.F.args_dict_eq_2 _ _)) (by omega);show wpAny _ _ (Builtin.Dict.dictSlotArgs "__eq__" ⟨[.ref a,.ref b],[]⟩>>=_) _ _ s;refine wpAny_bind ?_;unfold Builtin.Dict.dictSlotArgs;refine wpAny_bind (wpAny_notOrdered_dict Tc ?_);show wpAny _ _ (pure (Value.ref a,Value.ref b)) _ _ s;refine wpAny_pure ?_;refine wpAny_bind (wpAny_isInstance (T:="dict") Xu PySem.F.sub_dict_dict ?_);simp only[Bool.not_true,Bool.false_eq_true,if_false];refine wpAny_bind (wpAny_pure (wpAny_bind (wpAny_pure ?_)));refine wpAny_bind ?_;unfold Builtin.Dict.samePairs Builtin.Dict.showsAll;rw[if_neg (show ¬(a==sysModules)=true by rw[ma];exact Bool.false_ne_true),if_neg (show ¬(b==sysModules)=true by rw[mb];exact Bool.false_ne_true)];refine wpAny_bind (wpAny_pure (wpAny_bind (wpAny_pure ?_)));refine wpAny_bind (wpAny_dictEntries Z5 Li ?_);dsimp only;refine wpAny_bind (wpAny_dictEntries Sl Iz ?_);rw[if_pos (by rw[ea];simpa using Ne.symm eb)];refine wpAny_bind (wpAny_rule (wpAny_pure ?_));exact wpAny_pure ⟨_,rfl,λx=>(nomatch x),.bl false,H,I,rfl,q⟩
end
section
variable {X:Cx}{N:nO}{nl:Nat}{js:List Nat}{osc scope:Scope}{tg iter ke ve:Expr}{ifs:wW}{pos:Pos}
theorem xx {i:Nat}{y:Str}{py IF:Pos}{wi:TI}{g:TG}{tt:TT}{tk tv:TE}(hu:X.A.units<cLine)(S:A7 X N nl js osc scope)(hc:X.calm=true)(hN:X.N.Nodup)(hy:X.N[i]?=some y)(hl:Ar X.env.scope y)(hi:PI X tg iter wi)
 (hg:∀C fp s H,PG (bQ X N scope C fp s H) tg g)(ht:∀C fp s H,uS (bQ X N scope C fp s H) ifs tt)(hk:∀C fp s H,PE (bQ X N scope C fp s H) ke tk)(hv:∀C fp s H,PE (bQ X N scope C fp s H) ve tv)
 (Sh:swapsWith (.DictComp ke ve [⟨tg,iter,ifs,0⟩] scope pos) (some (.Name y py)) IF.line X.env=pure true)(hs:∀x,foldedSetIterable iter X.env x=pure x:=by intro _;rfl)
 (hf:X.fn y=true\/X.env.scope.names.lookup y=some .local:=by first|exact .inl rfl|exact .inr rfl|assumption):
 PS X (.Assign [.Name y py] (.DictComp ke ve [⟨tg,iter,ifs,0⟩] scope pos) IF) (iO (qh wi g tt tk tv nl js) (aZ i)):=by
 intro pins s σ H D I h;rw[exec_Assign_Name_used _ _ _ _ Sh];refine wpAny_bind (wpAny_standAt (wpAny_bind ?_));show wpAny _ X.A (do let _ <-comprehension (.DictComp ke ve [⟨tg,iter,ifs,0⟩] scope pos) scope X.env _ newDict false (eval iter X.env) (some (assign (.Name y py) X.env))) _ _ s
 refine wpAny_bind (wpAny_mono (wpAny_comprehension_free (use:=some (assign (.Name y py) X.env)) (Q:=λ_ s'=>SP X pins D .next s') rfl hs (dW S I) S.kind S.names
  (bA (hi pins s σ H _ I h) λv s1 h1=>bA h1 λKb s2 h2=>?_)) (λ_ s' hq=>wpAny_pure (wpAny_pure hq)) λ_ _ e=>e)
 obtain⟨it,fp,tn,J,H2,e,I2,T,GX,f2,w0⟩:=h2;subst e;refine jh (Fin:=λDd H'=>aZ i (.ref Dd) σ H' λσ2 H2=>D.nx σ2 H2) (RR:=λacc C=>compPost (model X.prog X.w) X.A X.xe (some (assign (.Name y py) X.env)) (λ_ s'=>SP X pins D .next s') acc C) S hc hu hg ht hk hv I2 T GX f2 w0 ?_;intro Dd C H' s' m I3 hn fC fin;show wpAny _ X.A (assign (.Name y py) X.env (.ref Dd)) _ _ _;refine wpAny_assign_Name (iY I3 hN hy hl (show aD (.ref Dd) (.ref Dd) from rfl) (λs4 I4 z'=>?_) hf);obtain⟨a,sb,ha⟩:=z';refine⟨m,hn.sameBut sb ?_,λh' HV=>⟨_,_,cm I4 fC HV,fin⟩⟩
 rcases ha with z|z
 ·rw[z];exact fC.2.1
 ·exact λq=>fC.2.2.2.2.1 _ _ z q.symm
end
end L2
namespace K26
open PySem L2 PySem.W Nm Srt
noncomputable abbrev Fn:Stmt:=(aJ 58)
theorem Am:yd ["field","places","part","wishes","number","wish"] pz (ak Fn):=c9 (by decide +kernel)
structure LR (C CF:Addr)(p n:Int)(H:Hp)(x:V)(as:List Addr):Prop where
 e:∃l,x=.ref l/\H l=some (.lst (as.map V.ref))
 len:as.length<=200
 wi:∀a∈as,WX C CF p n H (.ref a) true
variable {C CF:Addr}
theorem LR.aaz {p n:Int}{H H':Hp}{x:V}{as:List Addr}(h:LR C CF p n H x as)(k:eu H H'):LR C CF p n H' x as:=by
 obtain⟨l,e,hl⟩:=h.e;exact⟨⟨l,e,k _ _ hl λ_ _ z=>by cases z⟩,h.len,λa ha=>(h.wi a ha).aaz k⟩
noncomputable def BM (C CF:Addr):Sp:=λvs H Q E=>∃(fl F6:Addr)(p n:Int)(part:String)(x:V)(as:List Addr),vs=[.ref fl,.int n,.str part,x]/\H fl=some (.ins CF F6 (dR p))/\LR C CF p n H x as/\∀H' D,ax H H'->H D=none->H' D=some (.lst (as.map V.ref))->Q (.ref D) H'
variable {P:zO}{w:World}{K:PySem.W.Frag}{mg:yN}{base:Heap}
variable {f:Addr}{fd:vH}
theorem Cz {fw:Addr}{G4:vH}{Xv:Tok}(F:xR K "checked_wishes" "checked_wishes" Fn f fd)(FR:mg "isinstance"=none)(F7:mg "list"=none)(Ga:mg "enumerate"=none)(m_len:mg "len"=none)(Td:mg "MOST_WISHES"=some (.int 200 Xv))
 (FW:Ef P w K mg base (aO P w) 2 fw G4 ED (zj C CF))(bW:L2.az K G4 ED [])(mW:mg "is_wish"=some (.ref fw))(kW:keepIn K (.ref fw)=true):Ef P w K mg base (aO P w) 3 f fd pz (BM C CF):=by
 refine F.okN Am (λvs H Q E h=>?_) (λFV A outer s H vs Q E hr h=>?_)
 ·obtain⟨fl,F6,p,n,part,x,as,rfl,_⟩:=h;rfl
 ·obtain⟨fl,F6,p,n,part,x,as,rfl,hf,r,q⟩:=h;have G5:Fq 2 _:=hr.mono (by decide)
  refine⟨_,(ao (bc (PW.pt (eX (bR (b8 (aB aN (by rfl) FR (by rfl) (@aj _ _ _ _ _ (pv 3) (@aj _ _ _ _ _ (cH (by rfl) F7 (by rfl) (show aD (.ty "list") (.type "list") from rfl)) ag rfl) rfl)))) (dA (@aI _ _ _ _ _ _ _ _ sQ (aB bJ (by rfl) m_len PySem.boot_len (@aj _ _ _ _ _ (pv 3) ag rfl)) (cz (by rfl) Td (show aD (.int 200) (.int 200 Xv) from⟨_,rfl⟩)) (aK _))))) (au kY) aF)
   (ao (dJ (by passes_own) rfl (rp (pv 3) (by rfl) Ga) (cf rfl (aC (aA (i:=4) Am.nd rfl (Or.inl rfl)) (aC (aA (i:=5) Am.nd rfl (Or.inl rfl)) bH)))
   (au (bc (bR (b8 (av FW G5 (by rfl) mW kW bW .nil af (@aj _ _ _ _ _ (pv 0) (@aj _ _ _ _ _ (pv 1) (@aj _ _ _ _ _ (pv 5) ag rfl) rfl) rfl)))) (au kY) aF)))
   (au (ay (eW iF (by rfl) F7 (by rfl) (@aj _ _ _ _ _ (pv 3) ag rfl)))))),?_⟩
  obtain⟨l,rfl,hl⟩:=r.e;have hlen:=r.len
  have Rw:∀i y,(as.map V.ref)[i]?=some y->WX C CF p n H y true:=λi y e=>by
   rw[List.getElem?_map] at e;obtain⟨a,ea,rfl⟩:=Option.map_eq_some_iff.mp e;exact r.wi a (List.mem_of_getElem? ea)
  rw[<-List.length_map (as:=as) (f:=V.ref)] at hlen;generalize as.map V.ref=ys at hl Rw hlen q;refine⟨_,rfl,.ref l,.ty "list",_,_,_,rfl,rfl,.of (.lst hl),rfl,_,rfl,bD ?_⟩;refine⟨_,rfl,l,ys,rfl,.inl (ba.of hl),_,_,rfl,rfl,_,rfl,?_⟩;rw[decide_eq_false (by omega:¬(200:Int)<(ys.length:Int))];refine bD ?_;refine⟨_,rfl,l,ys,rfl,ba.of hl,?_⟩;refine⟨λi m σ' H'=>m=ys.length-i/\i<=ys.length/\ax H H'/\∃o1 o2,σ'=[some (.ref fl),some (.int n),some (.str part),some (.ref l),o1,o2],⟨ys.length,by simp,Nat.zero_le _,ax.refl _,none,none,rfl⟩,?_⟩;rintro i m σ' H' ⟨rfl,hi,sH,o1,o2,rfl⟩;have G6:=sH _ _ hl
  by_cases FY:i<ys.length
  ·refine .inr ⟨⟨ys,ys[i],ba.of G6,by simp[FY]⟩,λσ' H'=>i+1<=ys.length/\ax H H'/\∃o1 o2,σ'=[some (.ref fl),some (.int n),some (.str part),some (.ref l),o1,o2],?_,λv H2 hv=>?_⟩
   ·rintro σ' H' ⟨h1,h2,h3⟩;exact⟨ys.length-(i+1),by omega,rfl,h1,h2,h3⟩
   ·obtain⟨T,y,hy,hT,rfl,rfl⟩:=hv;have ey:=hy ys (ba.of G6);have s2:ax H (upd H' T (.tup [.int i,y])):=sH.trans (aq hT);refine⟨T,_,rfl,bx.of ae,rfl,_,_,rfl,_,_,rfl,rfl,?_⟩;refine⟨_,rfl,_,rfl,_,rfl,fl,F6,p,n,y,true,rfl,s2 _ _ hf,(Rw i y ey).aaz (.of s2),λH3 s3=>⟨_,rfl,bD ?_⟩⟩;exact⟨FY,λc u e=>s3 _ _ (s2 _ _ e),_,_,rfl⟩
  ·refine .inl ⟨⟨ys,ba.of G6,by omega⟩,?_⟩;refine⟨_,rfl,l,ys,rfl,.inl (ba.of G6),λD hD=>?_⟩;exact q _ D (sH.trans (aq hD)) (none_of sH hD) ae
noncomputable abbrev Fc:Stmt:=(aJ 59)
theorem DJ:yd DG DG (ak Fc):=c9 (by decide +kernel)
noncomputable def xO:Sp:=λvs H Q E=>∃x y:V,vs=[x,y,.non]/\∀D,H D=none->Q (.ref D) (upd H D (.lst []))
theorem BG (F:xR K "checked_uppers" "checked_uppers" Fc f fd):Ef P w K mg base (aO P w) 1 f fd DG xO:=by
 refine F.okN DJ (λvs H Q E h=>?_) (λFV A outer s H vs Q E hr h=>?_)
 ·obtain⟨x,y,rfl,_⟩:=h;rfl
 ·obtain⟨x,y,rfl,q⟩:=h;refine⟨_,ao (bc (@aI _ _ _ _ _ _ _ _ vE (pv 2) fV (aK _)) (au (ay (@cy _ _ _ _ ag))) aF) jN,?_⟩;exact⟨_,rfl,rfl,_,rfl,aW ⟨Nat.zero_le _,λl hl=>q l hl⟩⟩
noncomputable abbrev DP:Stmt:=bq (aJ 60) 0
theorem DT:yd tE tE (ak DP):=c9 (by decide +kernel)
structure pV (K:Frag)(mg:yN)(C:Addr):Prop where
 cl:uU K C
 nF:cT K C "its_field"
 nP:cT K C "its_places"
 nN:cT K C "its_noughts"
 nU:cT K C "its_uppers"
 mgC:mg "System"=some (.ref C)
 isC:((clsIn K C).isSome&&typeIn K (.ref C)==some (.type "type"))=true
 ca:findIn K (.ref C) "__class__"=some (some (.builtin "object.__class__"))
 sp:specialIn K (.builtin "object.__class__") "__get__"=some (some (.builtin "getset_descriptor.__get__"))
 tk:takesIn K (.builtin "object.__class__")=some true
 ob:mroIn K C (.type "object")=some true
noncomputable def BQ (fl:Addr)(n:Int)(A B:Addr):List (Str×V):=[("its_field",.ref fl),("its_places",.int n),("its_noughts",.ref A),("its_uppers",.ref B)]
structure Rt (C CF:Addr)(p n:Int)(H:Hp)(x:V)(fl:Addr)(as:List Addr):Prop where
 f:∃F6,H fl=some (.ins CF F6 (dR p))
 n1:1<=n
 n2:n<=60
 l:LR C CF p n H x as
theorem Rt.aaz {p n:Int}{H H':Hp}{x:V}{fl:Addr}{as:List Addr}(h:Rt C CF p n H x fl as)(k:eu H H'):Rt C CF p n H' x fl as:=by
 obtain⟨F6,hf⟩:=h.f;exact⟨⟨F6,k _ _ hf λ_ _ z=>by injection z with _ _ z;exact absurd z (by simp[dR])⟩,h.n1,h.n2,h.l.aaz k⟩
noncomputable def Ac (CS C CF:Addr):Sp:=λvs H Q E=>∃(s dx fl:Addr)(x:V)(p n:Int)(as:List Addr),vs=[.ref s,.ref fl,.int n,x,.non]/\H s=some (.ins CS dx []) /\
 Rt C CF p n H x fl as/\∀H' A B,SameBut s H H'->H A=none->H B=none->A≠B->H' s=some (.ins CS dx (BQ fl n A B))->H' A=some (.lst (as.map V.ref))->H' B=some (.lst [])->Q .non H'
theorem B0 {fc fu fw CS T:Addr}{Hr Xw G4:vH}{Xx:Tok}(F:Ca K "__init__" "System.__init__" DP f fd T)(cS:pV K mg CS)(cF:oO K mg CF)(FR:mg "isinstance"=none)(Tf:mg "MOST_PLACES"=some (.int 60 Xx))
 (FW:Ef P w K mg base (aO P w) 1 fw G4 uI t6)(bW:L2.az K G4 uI [])(mW:mg "is_whole"=some (.ref fw))(kW:keepIn K (.ref fw)=true)
 (FC:Ef P w K mg base (aO P w) 3 fc Hr pz (BM C CF))(bC:L2.az K Hr pz [])(mC:mg "checked_wishes"=some (.ref fc))(kC:keepIn K (.ref fc)=true)
 (FU:Ef P w K mg base (aO P w) 1 fu Xw DG xO)(bU:L2.az K Xw DG [])(mU:mg "checked_uppers"=some (.ref fu))(kU:keepIn K (.ref fu)=true):
 Ef P w K mg base (aO P w) 5 f fd tE (Ac CS C CF):=by
 refine F.okE DT (λvs H Q E h=>?_) (λFV A outer s H vs Q E hr h=>?_)
 ·obtain⟨s,dx,fl,x,p,n,as,rfl,_⟩:=h;rfl
 ·obtain⟨s0,dx,fl,x,p,n,as,rfl,hs,rt,q⟩:=h;obtain⟨F6,hf⟩:=rt.f;have n1:=rt.n1;have n2:=rt.n2;have la:=rt.l;have Ii:Fq 3 _:=hr.mono (by decide);have Gb:Fq 1 _:=hr.mono (by decide)
  refine⟨_,(ao (bc (bR (b8 (aB aN (by rfl) FR (by rfl) (@aj _ _ _ _ _ (pv 1) (@aj _ _ _ _ _ (cz (by rfl) cF.mgC (show aD (.ref CF) (.ref CF) from rfl)) ag rfl) rfl)))) (au kY) aF)
   (ao (bc (PW.pt (eX (bR (b8 (av FW Gb (by rfl) mW kW bW .nil af (@aj _ _ _ _ _ (pv 2) ag rfl)))) (dA (bR (j2 fK fK ah (pv 2) (cz (by rfl) Tf (show aD (.int 60) (.int 60 Xx) from⟨_,rfl⟩))))))) (au kY) aF)
   (ao (gW (pv 0) (pv 1) rfl)
   (ao (gW (pv 0) (pv 2) rfl)
   (ao (gW (pv 0) (av FC Ii (by rfl) mC kC bC .nil af (@aj _ _ _ _ _ (pv 1) (@aj _ _ _ _ _ (pv 2) (@aj _ _ _ _ _ cK (@aj _ _ _ _ _ (pv 3) ag rfl) rfl) rfl) rfl)) rfl)
   (au (gW (pv 0) (av FU Gb (by rfl) mU kU bU .nil af (@aj _ _ _ _ _ (pv 1) (@aj _ _ _ _ _ (pv 2) (@aj _ _ _ _ _ (pv 4) ag rfl) rfl) rfl)) rfl))))))),?_⟩
  have ki:∀{H':Hp},SameBut s0 H H'->eu H H':=λz=>eu.but z hs;refine⟨_,rfl,.ref fl,.ref CF,_,_,_,rfl,rfl,cF.ty hf,cF.is,_,rfl,bD ?_⟩;refine⟨_,rfl,_,_,rfl,.int n,_,rfl,bD ?_⟩;refine⟨_,rfl,_,_,rfl,rfl,_,rfl,?_⟩;rw[decide_eq_true n1];refine aW ⟨_,_,rfl,rfl,_,rfl,?_⟩;rw[decide_eq_true n2];refine bD ?_;refine⟨_,rfl,_,rfl,s0,CS,dx,_,rfl,hs,cS.cl,cS.nF,by decide,?_⟩;refine⟨_,rfl,_,rfl,s0,CS,dx,_,rfl,ae,cS.cl,cS.nP,(by show 1<1000;decide),?_⟩
  have s1:SameBut s0 H (upd (upd H s0 (.ins CS dx (cP "its_field" (.ref fl) []))) s0 (.ins CS dx (cP "its_places" (.int n) (cP "its_field" (.ref fl) [])))):=λb u e nb=>by rw[ai nb,ai nb];exact e
  have Ti:upd (upd H s0 (.ins CS dx (cP "its_field" (.ref fl) []))) s0 (.ins CS dx (cP "its_places" (.int n) (cP "its_field" (.ref fl) []))) s0=some (.ins CS dx [("its_field",.ref fl),("its_places",.int n)]):=ae;generalize upd (upd H s0 _) s0 _=H1 at s1 Ti
  have kf:∀{H':Hp},eu H H'->H' fl=some (.ins CF F6 (dR p)):=λk=>k _ _ hf λ_ _ z=>by injection z with _ _ z;exact absurd z (by simp[dR])
  refine⟨_,rfl,_,rfl,_,rfl,fl,F6,p,n,"noughts",x,as,rfl,kf (ki s1),la.aaz (ki s1),λH2 D s2 fD hD=>?_⟩;have Rl:=s2 _ _ Ti
  have nD:D≠s0:=λz=>by rw[z,Ti] at fD;cases fD
  refine⟨_,rfl,s0,CS,dx,_,rfl,Rl,cS.cl,cS.nN,(by show 2<1000;decide),?_⟩;have Lw:upd H2 s0 (.ins CS dx (cP "its_noughts" (.ref D) [("its_field",.ref fl),("its_places",.int n)])) s0=some (.ins CS dx [("its_field",.ref fl),("its_places",.int n),("its_noughts",.ref D)]):=ae
  have s3:SameBut s0 H (upd H2 s0 (.ins CS dx (cP "its_noughts" (.ref D) [("its_field",.ref fl),("its_places",.int n)]))):=λb u e nb=>by rw[ai nb];exact s2 _ _ (s1 b u e nb)
  have Nw:upd H2 s0 (.ins CS dx (cP "its_noughts" (.ref D) [("its_field",.ref fl),("its_places",.int n)])) D=some (.lst (as.map V.ref)):=by rw[ai nD];exact hD
  have Z8:H D=none:=by
   cases e:H D with
   |none=>rfl
   |some u=>rw[s1 D u e nD] at fD;cases fD
  generalize upd H2 s0 _=H3 at s3 Lw Nw;refine⟨_,rfl,_,rfl,_,rfl,_,_,rfl,λB fB=>?_⟩;have s4:=aq (o:=.lst []) fB;have hB:upd H3 B (.lst []) B=some (.lst []):=ae;generalize upd H3 B (.lst [])=H4 at s4 hB |-;have Z9:=s4 _ _ Lw
  have nB:B≠s0:=λz=>by rw[z,Lw] at fB;cases fB
  have nBD:D≠B:=λz=>by rw[<-z,Nw] at fB;cases fB
  refine⟨_,rfl,s0,CS,dx,_,rfl,Z9,cS.cl,cS.nU,(by show 3<1000;decide),?_⟩;refine q _ D B (λb u e nb=>by rw[ai nb];exact s4 _ _ (s3 b u e nb)) Z8 ?_ nBD ae (by rw[ai nD];exact s4 _ _ Nw) (by rw[ai nB];exact hB)
  cases e:H B with
  |none=>rfl
  |some u=>rw[s3 B u e nB] at fB;cases fB
end K26
namespace L2
open PySem PySem.Spec PyProof.Rows PySem.W
variable {H:Hp}
theorem Ed {σ:St}{A B:Hp->Prop}(h:A H):BX σ H λb H4=>if b=true then A H4 else B H4:=h
variable {tt:TT}{te:TE}
theorem vp {J:It}{n:Nat}{at_:Nat->V->Prop}{rest:St}{F:List V->Hp->Prop}(Pv:Nat->List V->Hp->Prop)(h0:Pv 0 [] H)
 (hz:∀i ys H',i<=n->Pv i ys H'->ys.length<sizeLine/\(i<n->J.go i H')/\(i=n->J.stop i H')/\∀x H2,J.yld i H' x H2->H2=H'/\at_ i x)
 (hs:∀i x ys H' (N:List V->Hp->Prop),i<n->at_ i x->Pv i ys H'->(∀zs H5,Pv (i+1) zs H5->N zs H5) →
  tt (some x::rest) H' λb H4=>if b=true then te (some x::rest) H4 λy H5=>N (ys++[y]) H5 else N ys H4)
 (hd:∀ys H',Pv n ys H'->F ys H'):
 ∃W:Nat->Nat->List V->St->Hp->Prop,(∃m,W 0 m [] (none::rest) H)/\lO J (aZ 0) tt te W F:=by
 refine⟨λi m ys σ H'=>m=n-i/\i<=n/\Pv i ys H'/\∃o,σ=o::rest,⟨n,by simp,Nat.zero_le _,h0,none,rfl⟩,?_⟩;rintro i m ys σ H' ⟨rfl,hi,p,o,rfl⟩;obtain⟨z1,z2,z3,z4⟩:=hz i ys H' hi p;refine⟨z1,?_⟩
 by_cases FY:i<n
 ·refine .inr ⟨z2 FY,λx H2 hy=>?_⟩;obtain⟨rfl,hx⟩:=z4 x H2 hy;exact hs i x ys H2 (λzs H5=>∃m',m'<n-i/\m'=n-(i+1)/\i+1<=n/\Pv (i+1) zs H5/\∃o',(some x::rest:St)=o'::rest) FY hx p λzs H5 h=>⟨n-(i+1),by omega,rfl,FY,h,_,rfl⟩
 ·have:i=n:=by omega
  subst this;exact .inl ⟨z3 rfl,hd ys H' p⟩
theorem uW {K:PySem.W.Frag}{a:Addr}{xs:List V}{rest:St}{F:List V->Hp->Prop}(Pv:Nat->List V->Hp->Prop)(h0:Pv 0 [] H)
 (hz:∀i ys H',i<=xs.length->Pv i ys H'->ys.length<sizeLine/\ba K H' a xs)
 (hs:∀i x ys H' (N:List V->Hp->Prop),i<xs.length->xs[i]?=some x->Pv i ys H'->(∀zs H5,Pv (i+1) zs H5->N zs H5) →
  tt (some x::rest) H' λb H4=>if b=true then te (some x::rest) H4 λy H5=>N (ys++[y]) H5 else N ys H4)
 (hd:∀ys H',Pv xs.length ys H'->F ys H'):
 ∃W:Nat->Nat->List V->St->Hp->Prop,(∃m,W 0 m [] (none::rest) H)/\lO (Dk K a) (aZ 0) tt te W F:=by
 refine vp (n:=xs.length) (at_:=λi x=>xs[i]?=some x) Pv h0 (λi ys H' hi p=>?_) hs hd;obtain⟨z1,z2⟩:=hz i ys H' hi p;exact⟨z1,λh=>⟨xs,xs[i],z2,by simp[h]⟩,λh=>⟨xs,z2,by omega⟩,λx H2 hy=>⟨hy.1,hy.2 xs z2⟩⟩
theorem tX {K:PySem.W.Frag}{a:Addr}{xs:List V}{rest:St}{F:List V->Hp->Prop}(Pv:Nat->List V->Hp->Prop)(h0:Pv 0 [] H)
 (hz:∀i ys H',i<=xs.length->Pv i ys H'->ys.length<sizeLine/\ba K H' a xs)
 (hs:∀i x ys H',i<xs.length->xs[i]?=some x->Pv i ys H' →
  ∃b u v,x=.ref b/\bx K H' b [u,v]/\∀(N:List V->Hp->Prop),(∀zs H5,Pv (i+1) zs H5->N zs H5)->tt (some u::some v::rest) H' λb H4=>if b=true then te (some u::some v::rest) H4 λy H5=>N (ys++[y]) H5 else N ys H4)
 (hd:∀ys H',Pv xs.length ys H'->F ys H'):
 ∃W:Nat->Nat->List V->St->Hp->Prop,(∃m,W 0 m [] (none::none::rest) H)/\lO (Dk K a) (gD K 2 (bX (aZ 0) (bX (aZ 1) DH))) tt te W F:=by
 refine⟨λi m ys σ H'=>m=xs.length-i/\i<=xs.length/\Pv i ys H'/\∃o o2,σ=o::o2::rest,⟨xs.length,by simp,Nat.zero_le _,h0,none,none,rfl⟩,?_⟩;rintro i m ys σ H' ⟨rfl,hi,p,o,o2,rfl⟩;obtain⟨z1,z2⟩:=hz i ys H' hi p;refine⟨z1,?_⟩
 by_cases FY:i<xs.length
 ·refine .inr ⟨⟨xs,xs[i],z2,by simp[FY]⟩,λx H2 hy=>?_⟩;obtain⟨rfl,hx⟩:=hy;obtain⟨b,u,v,rfl,hb,h⟩:=hs i x ys H2 FY (hx xs z2) p;exact⟨_,[u,v],rfl,hb,rfl,_,_,rfl,_,_,rfl,rfl,h (λzs H5=>∃m',m'<xs.length-i/\m'=xs.length-(i+1)/\i+1<=xs.length/\Pv (i+1) zs H5/\∃o o2,(some u::some v::rest:St)=o::o2::rest) λzs H5 h=>⟨xs.length-(i+1),by omega,rfl,FY,h,_,_,rfl⟩⟩
 ·have:i=xs.length:=by omega
  subst this;exact .inl ⟨⟨xs,z2,Nat.le_refl _⟩,hd ys H' p⟩
end L2
namespace K26
open PySem L2 PySem.W Nm Srt
noncomputable abbrev ET:Stmt:=bq (aJ 60) 3
noncomputable abbrev Fl:Stmt:=bq (aJ 60) 4
noncomputable abbrev EU:Stmt:=bq (aJ 60) 5
theorem Eo:yd ["self"] ["self"] (ak ET):=c9 (by decide +kernel)
theorem DK:yd ["self"] ["self"] (ak Fl):=c9 (by decide +kernel)
theorem Ek:yd ["self"] ["self"] (ak EU):=c9 (by decide +kernel)
structure A4 (CS CF:Addr)(H:Hp)(s fl:Addr)(p n:Int)(as bs:List Addr):Prop where
 ex:∃dx F6 A B,H s=some (.ins CS dx (BQ fl n A B))/\H fl=some (.ins CF F6 (dR p))/\H A=some (.lst (as.map V.ref))/\H B=some (.lst (bs.map V.ref))
 l1:as.length<=200
 l2:bs.length<=200
variable {CS CF:Addr}{H:Hp}
theorem A4.same {H':Hp}{s fl:Addr}{p n:Int}{as bs:List Addr}(h:A4 CS CF H s fl p n as bs)(k:ax H H'):A4 CS CF H' s fl p n as bs:=by
 obtain⟨dx,F6,A,B,h1,h2,h3,h4⟩:=h.ex;exact⟨⟨dx,F6,A,B,k _ _ h1,k _ _ h2,k _ _ h3,k _ _ h4⟩,h.l1,h.l2⟩
noncomputable def CG (CS CF:Addr):Sp:=λvs H Q _=>∃(s fl:Addr)(p n:Int)(as bs:List Addr),vs=[.ref s]/\A4 CS CF H s fl p n as bs/\Q (.ref fl) H
noncomputable def CW (CS CF:Addr):Sp:=λvs H Q _=>∃(s fl:Addr)(p n:Int)(as bs:List Addr),vs=[.ref s]/\A4 CS CF H s fl p n as bs/\Q (.int n) H
noncomputable def AN (CS CF:Addr):Sp:=λvs H Q _=>∃(s fl:Addr)(p n:Int)(as bs:List Addr),vs=[.ref s]/\A4 CS CF H s fl p n as bs/\∀l,H l=none->Q (.ref l) (upd H l (.lst (as.map V.ref)))
variable {P:zO}{w:World}{K:PySem.W.Frag}{mg:yN}{base:Heap}
variable {f:Addr}{fd:vH}
theorem BW {CF:Addr}(F:xR K "field" "System.field" ET f fd)(cS:pV K mg CS):Ef P w K mg base (aO P w) 1 f fd ["self"] (CG CS CF):=by
 refine F.okN Eo (λvs H Q E h=>?_) (λFV A outer s H vs Q E hr h=>?_)
 ·obtain⟨s,fl,p,n,as,bs,rfl,_⟩:=h;rfl
 ·obtain⟨s,fl,p,n,as,bs,rfl,S,q⟩:=h;obtain⟨dx,F6,A,B,h1,h2,h3,h4⟩:=S.ex;refine⟨_,(au (ay (dF (pv 0) rfl))),?_⟩;exact⟨_,rfl,s,CS,dx,_,_,rfl,h1,cS.cl,cS.nF,rfl,q⟩
theorem Cw {CF:Addr}(F:xR K "places" "System.places" Fl f fd)(cS:pV K mg CS):Ef P w K mg base (aO P w) 1 f fd ["self"] (CW CS CF):=by
 refine F.okN DK (λvs H Q E h=>?_) (λFV A outer s H vs Q E hr h=>?_)
 ·obtain⟨s,fl,p,n,as,bs,rfl,_⟩:=h;rfl
 ·obtain⟨s,fl,p,n,as,bs,rfl,S,q⟩:=h;obtain⟨dx,F6,A,B,h1,h2,h3,h4⟩:=S.ex;refine⟨_,(au (ay (dF (pv 0) rfl))),?_⟩;exact⟨_,rfl,s,CS,dx,_,_,rfl,h1,cS.cl,cS.nP,rfl,q⟩
theorem Co {CF:Addr}(F:xR K "noughts" "System.noughts" EU f fd)(cS:pV K mg CS)(F7:mg "list"=none):Ef P w K mg base (aO P w) 1 f fd ["self"] (AN CS CF):=by
 refine F.okN Ek (λvs H Q E h=>?_) (λFV A outer s H vs Q E hr h=>?_)
 ·obtain⟨s,fl,p,n,as,bs,rfl,_⟩:=h;rfl
 ·obtain⟨s,fl,p,n,as,bs,rfl,S,q⟩:=h;obtain⟨dx,F6,A,B,h1,h2,h3,h4⟩:=S.ex;refine⟨_,(au (ay (eW iF (by rfl) F7 (by rfl) (@aj _ _ _ _ _ (dF (pv 0) rfl) ag rfl)))),?_⟩;exact⟨_,rfl,s,CS,dx,_,_,rfl,h1,cS.cl,cS.nN,rfl,A,_,rfl,.inl (ba.of h3),q⟩
noncomputable abbrev EW:Stmt:=(aJ 20)
noncomputable abbrev EM:Stmt:=(aJ 21)
noncomputable abbrev DB:Stmt:=(aJ 32)
noncomputable abbrev EJ:Stmt:=(aJ 65)
noncomputable abbrev E2:Stmt:=(aJ 68)
noncomputable abbrev EN:Stmt:=(aJ 70)
theorem DI:yd tS tS (ak EW):=c9 (by decide +kernel)
theorem ue:yd ["places","size","ways","total","alike","many"] Ci (ak EM):=c9 (by decide +kernel)
theorem DS:yd ["system","thing","sided","nought"] zV (ak DB):=c9 (by decide +kernel)
theorem Es:yd ["system","degree","thing","product","number"] ya (ak EJ):=c9 (by decide +kernel)
theorem DA:yd ["system","degree","thing","wholes","prime","nought","many","found"] ya (ak E2):=c9 (by decide +kernel)
theorem EE:yd ["system","degree","filling","field"] Ez (ak EN):=c9 (by decide +kernel)
inductive Tg (H:Hp):V->Prop where
 |non:Tg H .non
 |lst {a:Addr}(e:H a=some (.lst [])):Tg H (.ref a)
 |dic {a:Addr}(e:H a=some (.dK [])):Tg H (.ref a)
 |tup {a:Addr}(e:H a=some (.tup [.int 2])):Tg H (.ref a)
 |str:Tg H (.str "x")
 |int:Tg H (.int 7)
theorem Tg.same {H':Hp}{x:V}(h:Tg H x)(k:ax H H'):Tg H' x:=by
 cases h with
 |non=>exact .non
 |lst e=>exact .lst (k _ _ e)
 |dic e=>exact .dic (k _ _ e)
 |tup e=>exact .tup (k _ _ e)
 |str=>exact .str
 |int=>exact .int
noncomputable def eC:V->Bool
 | .int i=>decide (0<=i)&&decide (i<=300)
 |_=>false
theorem fI {x:V}{T:String}(h:Th H x T):(∃i:Int,x=.int i/\0<=i/\i<=300/\eC x=true)\/((∀i:Int,x=.int i->¬(0<=i/\i<=300))/\eC x=false):=by
 cases h with
 |int i =>
  by_cases z:0<=i/\i<=300
  ·exact .inl ⟨i,rfl,z.1,z.2,by show(decide (0<=i)&&decide (i<=300))=true;rw[decide_eq_true z.1,decide_eq_true z.2];rfl⟩
  ·refine .inr ⟨λj e=>by cases e;exact z,?_⟩;show(decide (0<=i)&&decide (i<=300))=false
   cases e1:decide (0<=i) with
   |false=>rfl
   |true =>
    have:¬i<=300:=λq=>z ⟨of_decide_eq_true e1,q⟩;rw[decide_eq_false this];rfl
 |_=>exact .inr ⟨λi e=>(nomatch e),rfl⟩
theorem uw {X:Cx}:dE X (.builtin "len") (λxs H Q=>∃a FQ,xs=[.ref a]/\Rd H a (.dK FQ)/\Q (.int FQ.length) H):=by
 intro pins s σ H xs us Q I r h;obtain⟨a,FQ,rfl,e,q⟩:=h;obtain⟨u,rfl,ru⟩:=eO r
 cases(show u=Value.ref a from ru)
 obtain⟨z,m,vs,rel,dd⟩:=il I.hok e;refine call_len_dict m dd (by rw[<-rel.length];rw[sizeLine_eq] at z;omega) ?_;exact⟨.int _,H,I.tok _,⟨_,by rw[rel.length]⟩,q⟩
noncomputable def qD:Sp:=λvs H Q _=>∃p n:Int,vs=[.int p,.int n,.int 1]/\0<=p/\p<=3/\0<=n/\n<=300/\∀(r:Int)(H':Hp),1<=r->ax H H'->Q (.int r) H'
noncomputable def Fw:Sp:=λvs H Q _=>∃p n:Int,vs=[.int p,.int n]/\0<=p/\p<=3/\0<=n/\n<=300/\∀(r:Int)(H':Hp),1<=r->ax H H'->Q (.int r) H'
noncomputable def m7:Sp:=λvs H Q _=>∃x y z:V,vs=[x,y,z]/\Tg H y/\∀H',ax H H'->Q (.bl false) H'
noncomputable def Bz (CS CF:Addr):Sp:=λvs H Q _=>∃(sy fl:Addr)(p n:Int)(as bs:List Addr)(i:Int)(y:V),vs=[.ref sy,.int i,y]/\A4 CS CF H sy fl p n as bs/\0<=n/\n<=3/\0<=i/\i<=300/\Tg H y/\∀H',ax H H'->Q (.bl false) H'
noncomputable def C2 (CS CF CN:Addr):Sp:=λvs H Q E=>∃(sy fl:Addr)(p n:Int)(as bs:List Addr)(x y:V)(T:String),vs=[.ref sy,x,y]/\A4 CS CF H sy fl p n as bs/\0<=n/\n<=3/\Th H x T/\Tg H y /\
 (eC x=true->∀H',ax H H'->Q (.bl false) H')/\(eC x=false->E (.ref CN) none H)
noncomputable def Cu (CN NF:Addr):Sp:=λvs H Q E=>∃(sy x y:V)(T:String),vs=[sy,x,y]/\Th H x T/\Tg H y/\(eC x=true->∀H',ax H H'->E (.ref NF) none H')/\(eC x=false->E (.ref CN) none H)
theorem B9 (F:xR K "many_choices" "many_choices" EM f fd)(m_range:mg "range"=none)(m_min:mg "min"=none):Ef P w K mg base (aO P w) 1 f fd Ci qD:=by
 refine F.okN ue (λvs H Q E h=>?_) (λFV A outer s H vs Q E hr h=>?_)
 ·obtain⟨p,n,rfl,_⟩:=h;rfl
 ·obtain⟨p,n,rfl,p0,p1,n0,n1,q⟩:=h
  refine⟨_,(ao (i8 (@bO _ _ _ _ _ (@aj _ _ _ _ _ ah (@aj _ _ _ _ _ ah ag rfl) rfl)) (cf rfl (aC (aA (i:=3) ue.nd rfl (Or.inl rfl)) (aC (aA (i:=4) ue.nd rfl (Or.inl rfl)) bH))))
   (ao (dJ PassesOwn.never rfl (cX (by rfl) m_range (@aj _ _ _ _ _ (@aH _ _ _ _ _ _ _ _ cV (aB (mv rfl) (by rfl) m_min (by rfl) (@aj _ _ _ _ _ (pv 1) (@aj _ _ _ _ _ (pv 0) ag rfl) rfl)) ah) ag rfl)) (aA (i:=5) ue.nd rfl (Or.inl rfl))
    (ao (abw (i:=3) ue.nd rfl (Or.inl rfl) (pv 4) aau)
    (au (@aM _ _ 4 _ _ _ _ ue.nd rfl (Or.inl rfl) (@aH _ _ _ _ _ _ _ _ eV (@aH _ _ _ _ _ _ _ _ dh (@aH _ _ _ _ _ _ _ _ dh (pv 4) (@aH _ _ _ _ _ _ _ _ gU (pv 0) (pv 5))) (pv 2)) (@aH _ _ _ _ _ _ _ _ cV (pv 5) ah)) rfl (Or.inl rfl)))))
   (au (ay (pv 3))))),?_⟩
  refine⟨ic,λt ht=>?_⟩;have s0:=aq (o:=.tup [.int 0,.int 1]) ht;refine⟨t,_,rfl,bx.of ae,rfl,_,_,rfl,_,_,rfl,rfl,?_⟩;generalize upd H t (.tup [.int 0,.int 1])=H0 at s0 |-;refine⟨_,rfl,_,rfl,_,_,rfl,?_⟩
  have hk:∃k:Nat,(if p<n then p else n)=(k:Int)/\k<=3:=by
   split
   ·exact⟨p.toNat,by omega,by omega⟩
   ·exact⟨n.toNat,by omega,by omega⟩
  obtain⟨k,ek,k3⟩:=hk;rw[ek];refine⟨_,_,rfl,rfl,_,rfl,by omega,by omega,?_⟩;refine iV (lo:=0) (λi σ H'=>∃(MD al:Int)(o:Option V),σ=[some (.int p),some (.int n),some (.int 1),some (.int MD),some (.int al),o]/\H'=H0/\0<=MD/\0<=al/\al<=3^i/\i<=4/\(1<=i->1<=MD)/\(i=0->al=1)) ⟨0,1,none,rfl,rfl,by decide,by decide,by decide,by decide,λz=>absurd z (by decide),λ_=>rfl⟩ ?_ ?_
  ·rintro i σ H' hi ⟨MD,al,o,rfl,rfl,t0,a0,a1,i4,it,ia⟩
   have hi4:i<4:=by omega
   have p81:(3:Int)^i<=27:=by
    rcases(by omega:i=0\/i=1\/i=2\/i=3) with z|z|z|z <;> subst z <;> decide
   have bal:B 9000 al:=by unfold B;exact Nat.lt_of_lt_of_le (by omega:al.natAbs<2^5) (Nat.pow_le_pow_right (by decide) (by decide))
   have bp:B 9000 (p-(0+(i:Int))):=by unfold B;exact Nat.lt_of_lt_of_le (by omega:(p-(0+(i:Int))).natAbs<2^5) (Nat.pow_le_pow_right (by decide) (by decide))
   have b1:B 9000 (1:Int):=by unfold B;exact Nat.lt_of_lt_of_le (by decide:(1:Int).natAbs<2^5) (Nat.pow_le_pow_right (by decide) (by decide))
   have hm:0<=p-(0+(i:Int))/\p-(0+(i:Int))<=3:=by
    have:(k:Int)<=p:=by rw[<-ek];split <;> omega
    omega
   have m0:0<=al*(p-(0+(i:Int))):=Int.mul_nonneg a0 hm.1
   have m1:al*(p-(0+(i:Int)))<=3*al:=by
    have:=Int.mul_le_mul_of_nonneg_left hm.2 a0;omega
   have bm:B 9000 (al*(p-(0+(i:Int)))):=by unfold B;exact Nat.lt_of_lt_of_le (by omega:(al*(p-(0+(i:Int)))).natAbs<2^7) (Nat.pow_le_pow_right (by decide) (by decide))
   have bi:B 9000 (0+(i:Int)+1):=by unfold B;exact Nat.lt_of_lt_of_le (by omega:(0+(i:Int)+1).natAbs<2^5) (Nat.pow_le_pow_right (by decide) (by decide))
   refine⟨_,rfl,_,rfl,_,_,rfl,rfl,_,rfl,_,rfl,_,rfl,_,_,rfl,rfl,_,_,rfl,rfl,⟨bal,bp⟩,_,rfl,_,_,rfl,rfl,⟨bm,b1⟩,_,rfl,_,_,rfl,rfl,_,_,rfl,rfl,⟨by omega,bi⟩,?_⟩;rw[Int.mul_one];generalize al*(p-(0+(i:Int)))=y at m0 m1 bm |-
   have d0:0<=y.fdiv (0+(i:Int)+1):=by
    rw[Int.fdiv_eq_ediv_of_nonneg _ (by omega)];exact Int.ediv_nonneg m0 (by omega)
   have d1:y.fdiv (0+(i:Int)+1)<=y:=by
    rw[Int.fdiv_eq_ediv_of_nonneg _ (by omega)];exact Int.ediv_le_self _ m0
   refine⟨MD+al,_,_,rfl,rfl,by omega,d0,?_,by omega,λ_=>?_,λz=>absurd z (by omega)⟩
   ·rw[Int.pow_succ];omega
   ·rcases Nat.eq_zero_or_pos i with z|z
    ·have:=ia z;omega
    ·have:=it z;omega
  ·rintro σ H' ⟨MD,al,o,rfl,rfl,t0,a0,a1,i4,it,ia⟩;exact⟨_,rfl,q _ _ (it (by omega)) s0⟩
theorem Cy {fm:Addr}{NG:vH}(F:xR K "many_products" "many_products" EW f fd)(FM:Ef P w K mg base (aO P w) 1 fm NG Ci qD)(bM:L2.az K NG Ci [])(mM:mg "many_choices"=some (.ref fm))(kM:keepIn K (.ref fm)=true):Ef P w K mg base (aO P w) 2 f fd tS Fw:=by
 refine F.okN DI (λvs H Q E h=>?_) (λFV A outer s H vs Q E hr h=>?_)
 ·obtain⟨p,n,rfl,_⟩:=h;rfl
 ·obtain⟨p,n,rfl,p0,p1,n0,n1,q⟩:=h;have Gb:Fq 1 _:=hr.mono (by decide);refine⟨_,au (ay (av FM Gb (by rfl) mM kM bM .nil af (@aj _ _ _ _ _ (pv 0) (@aj _ _ _ _ _ (pv 1) (@aj _ _ _ _ _ ah ag rfl) rfl) rfl))),?_⟩;exact⟨_,rfl,_,rfl,p,n,rfl,p0,p1,n0,n1,q⟩
theorem Ck {fb T:Addr}{NH:vH}(F:Ca K "is_filling" "is_filling" DB f fd T)(FB:Ef P w K mg base (aO P w) 2 fb NH uI vj)(bB:L2.az K NH uI [])(mB:mg "is_row_of_bits"=some (.ref fb))(kB:keepIn K (.ref fb)=true):Ef P w K mg base (aO P w) 3 f fd zV m7:=by
 refine F.okE DS (λvs H Q E h=>?_) (λFV A outer s H vs Q E hr h=>?_)
 ·obtain⟨x,y,z,rfl,_⟩:=h;rfl
 ·obtain⟨x,y,z,rfl,hy,q⟩:=h;have Gz:Fq 2 _:=hr.mono (by decide);refine⟨_,ao (bc (PW.pt (eX (bR (b8 (av FB Gz (by rfl) mB kB bB .nil af (@aj _ _ _ _ _ (pv 1) ag rfl)))) (dA vG))) (au (ay dG)) aF) jN,?_⟩
  cases hy with
  |tup e =>
   refine⟨_,rfl,_,some [.int 2],rfl,.tup e (by decide) (λv hv=>⟨"int",by cases List.mem_singleton.mp hv;exact .int 2⟩),λH' sH=>⟨_,rfl,?_⟩⟩;exact aW (aW (q _ sH))
  |non=>exact⟨_,rfl,_,none,rfl,.no .non (by decide),λH' sH=>⟨_,rfl,aW (aW (q _ sH))⟩⟩
  |lst e=>exact⟨_,rfl,_,none,rfl,.no (.lst e) (by decide),λH' sH=>⟨_,rfl,aW (aW (q _ sH))⟩⟩
  |dic e=>exact⟨_,rfl,_,none,rfl,.no (.dK e) (by decide),λH' sH=>⟨_,rfl,aW (aW (q _ sH))⟩⟩
  |str=>exact⟨_,rfl,_,none,rfl,.no (.str _) (by decide),λH' sH=>⟨_,rfl,aW (aW (q _ sH))⟩⟩
  |int=>exact⟨_,rfl,_,none,rfl,.no (.int _) (by decide),λH' sH=>⟨_,rfl,aW (aW (q _ sH))⟩⟩
theorem Da {fm Xy:Addr}{NG NI:vH}(F:xR K "are_numbered_products" "are_numbered_products" EJ f fd)(cS:pV K mg CS)(m_len:mg "len"=none)(NJ:mg "isinstance"=none)(HQ:mg "dict"=none)
 (FM:Ef P w K mg base (aO P w) 2 fm NG tS Fw)(bM:L2.az K NG tS [])(mM:mg "many_products"=some (.ref fm))(kM:keepIn K (.ref fm)=true)
 (FYP:Ef P w K mg base (aO P w) 1 Xy NI ["self"] (CW CS CF))(bYP:L2.az K NI ["self"] [])(mYP:L2.Meth K CS "places" Xy):Ef P w K mg base (aO P w) 3 f fd ya (Bz CS CF):=by
 refine F.okN Es (λvs H Q E h=>?_) (λFV A outer s H vs Q E hr h=>?_)
 ·obtain⟨sy,fl,p,n,as,bs,i,y,rfl,_⟩:=h;rfl
 ·obtain⟨sy,fl,p,n,as,bs,i,y,rfl,S,n0,n1,i0,i1,hy,q⟩:=h;have Gb:Fq 1 _:=hr.mono (by decide);have Gz:Fq 2 _:=hr.mono (by decide);refine⟨_,ao (bc (PW.pt (eX (bR (b8 (aB aN (by rfl) NJ (by rfl) (aS (pv 2) (aS (cH (by rfl) HQ (by rfl) (show aD (.ty "dict") (.type "dict") from rfl)) ag))))) (dA (@aI _ _ _ _ _ _ _ _ gI (aB uw (by rfl) m_len PySem.boot_len (@aj _ _ _ _ _ (pv 2) ag rfl)) (av FM Gz (by rfl) mM kM bM .nil af (@aj _ _ _ _ _ (dM (pv 0) cS.cl mYP FYP Gb bYP .nil af) (@aj _ _ _ _ _ (pv 1) ag rfl) rfl)) (aK _))))) (au (ay dG)) aF) jN,?_⟩
  cases hy with
  |dic e =>
   refine⟨_,rfl,_,.ty "dict",_,_,true,rfl,rfl,(Th.dK e).ty,rfl,_,rfl,bD ?_⟩;obtain⟨dx,F6,A1,B1,h1,_⟩:=S.ex;refine⟨_,rfl,_,[],rfl,Rd.of e,_,rfl,sy,dx,_,rfl,h1,rfl,sy,fl,p,n,as,bs,rfl,S,_,rfl,n,i,rfl,n0,n1,i0,i1,λr H' Gb sH=>?_⟩;refine⟨rfl,_,rfl,?_⟩;rw[jw,show((([]:List (Key×V)).length:Int)==r)=false from by simp;omega];exact aW (q _ sH)
  |non=>exact⟨_,rfl,_,.ty "dict",_,_,false,rfl,rfl,Th.non.ty,rfl,_,rfl,aW (aW (q _ (ax.refl _)))⟩
  |lst e=>exact⟨_,rfl,_,.ty "dict",_,_,false,rfl,rfl,(Th.lst e).ty,rfl,_,rfl,aW (aW (q _ (ax.refl _)))⟩
  |tup e=>exact⟨_,rfl,_,.ty "dict",_,_,false,rfl,rfl,(Th.tup e).ty,rfl,_,rfl,aW (aW (q _ (ax.refl _)))⟩
  |str=>exact⟨_,rfl,_,.ty "dict",_,_,false,rfl,rfl,(Th.str _).ty,rfl,_,rfl,aW (aW (q _ (ax.refl _)))⟩
  |int=>exact⟨_,rfl,_,.ty "dict",_,_,false,rfl,rfl,(Th.int _).ty,rfl,_,rfl,aW (aW (q _ (ax.refl _)))⟩
theorem C0 {fc fn CN:Addr}{Hr Kt:vH}(F:xR K "lets_worths" "lets_worths" E2 f fd)
 (Ly:Ef P w K mg base (aO P w) 2 fc Hr DC (wA CN))(Lz:L2.az K Hr DC [])(LA:mg "checked_degree"=some (.ref fc))(LB:keepIn K (.ref fc)=true)
 (FN:Ef P w K mg base (aO P w) 3 fn Kt ya (Bz CS CF))(bN:L2.az K Kt ya [])(mN:mg "are_numbered_products"=some (.ref fn))(kN:keepIn K (.ref fn)=true):Ef P w K mg base (aO P w) 4 f fd ya (C2 CS CF CN):=by
 refine F.okE DA (λvs H Q E h=>?_) (λFV A outer s H vs Q E hr h=>?_)
 ·obtain⟨sy,fl,p,n,as,bs,x,y,T,rfl,_⟩:=h;rfl
 ·obtain⟨sy,fl,p,n,as,bs,x,y,T,rfl,S,n0,n1,th,hy,q,e⟩:=h;have Gz:Fq 2 _:=hr.mono (by decide);have G5:Fq 3 _:=hr.mono (by decide)
  refine⟨_,ao (fG (av Ly Gz (by rfl) LA LB Lz .nil cD (@aj _ _ _ _ _ (pv 1) ag rfl)))
   (ao (bc (PW.pt (eX (bR (b8 (av FN G5 (by rfl) mN kN bN .nil af (@aj _ _ _ _ _ (pv 0) (@aj _ _ _ _ _ (pv 1) (@aj _ _ _ _ _ (pv 2) ag rfl) rfl) rfl)))) (dA vG))) (au (ay dG)) aF) jN),?_⟩
  refine⟨_,rfl,x,T,rfl,th,?_⟩
  rcases fI th with⟨i,rfl,i0,i1,g⟩|⟨no,g⟩
  ·refine .inl ⟨i,rfl,i0,i1,?_⟩;exact⟨_,rfl,_,rfl,_,rfl,sy,fl,p,n,as,bs,i,y,rfl,S,n0,n1,i0,i1,hy,λH' sH=>⟨_,rfl,aW (aW (q g _ sH))⟩⟩
  ·exact .inr ⟨no,e g⟩
theorem Cv {fc fn CN NF:Addr}{Hr Kt:vH}(F:xR K "worths_of" "worths_of" EN f fd)(mNF:mg "NoFilling"=some (.ref NF))(qNF:og K NF Bw tO=true)
 (Ly:Ef P w K mg base (aO P w) 2 fc Hr DC (wA CN))(Lz:L2.az K Hr DC [])(LA:mg "checked_degree"=some (.ref fc))(LB:keepIn K (.ref fc)=true)
 (FN:Ef P w K mg base (aO P w) 3 fn Kt zV m7)(bN:L2.az K Kt zV [.bool false])(mN:mg "is_filling"=some (.ref fn))(kN:keepIn K (.ref fn)=true):Ef P w K mg base (aO P w) 4 f fd Ez (Cu CN NF):=by
 refine F.okE EE (λvs H Q E h=>?_) (λFV A outer s H vs Q E hr h=>?_)
 ·obtain⟨sy,x,y,T,rfl,_⟩:=h;rfl
 ·obtain⟨sy,x,y,T,rfl,th,hy,q,e⟩:=h;have Gz:Fq 2 _:=hr.mono (by decide);have G5:Fq 3 _:=hr.mono (by decide)
  refine⟨_,ao (fG (av Ly Gz (by rfl) LA LB Lz .nil cD (@aj _ _ _ _ _ (pv 1) ag rfl)))
   (ao (bc (bR (b8 (av (dvs:=[.bl false]) FN G5 (by rfl) mN kN bN (.cons rfl .nil) af (@aj _ _ _ _ _ (pv 0) (@aj _ _ _ _ _ (pv 2) ag rfl) rfl)))) (au (kd PySem.F.excBase_ValueError qNF rfl gO (by rfl) mNF (@aj _ _ _ _ _ cK ag rfl))) aF) jN),?_⟩
  refine⟨_,rfl,x,T,rfl,th,?_⟩
  rcases fI th with⟨i,rfl,i0,i1,g⟩|⟨no,g⟩
  ·refine .inl ⟨i,rfl,i0,i1,?_⟩;exact⟨_,rfl,_,rfl,_,_,_,rfl,hy,λH' sH=>⟨_,rfl,aW ⟨by decide,q g _ sH⟩⟩⟩
  ·exact .inr ⟨no,e g⟩
end K26
namespace L2
open PySem PySem.Spec PyProof.Rows
section
variable {prog:zO}{w:World}{A:Around}{R:Result->Shared->Prop}{s:Fp}
theorem oy (elt:Expr)(g0:Comprehension)(target iter:Expr)(ifs:wW)(scope:Scope)(pos:Pos)(it acc:Value)(env:Env):
 compTurn (.ListComp elt [g0,⟨target,iter,ifs,0⟩] scope pos) 1 it acc env=(do
  standAt iter.pos
  match <-pyNext it with
  |none=>pure (.done .next)
  |some v=>do
   letOwnedTupleGo target it v
   assign target env v
   let ok <-forIn ifs true λc r=>if r=true then do let ok <-PySem.isTrue c env (eval c env);pure (ForInStep.yield ok) else pure (ForInStep.yield r)
   if ok=true then do
    let _ <-(do
     let x <-eval elt env
     let _ <-call (Value.builtin "list.append") [acc,x]
     pure ())
    again (.compLoop (.ListComp elt [g0,⟨target,iter,ifs,0⟩] scope pos) 1 it acc env)
   else again (.compLoop (.ListComp elt [g0,⟨target,iter,ifs,0⟩] scope pos) 1 it acc env)):=by
 unfold compTurn;rfl
theorem mO (elt t0 i0:Expr)(t1 i1:Expr)(Jp if1:wW)(scope:Scope)(pos:Pos)(it acc:Value)(env:Env):
 compTurn (.ListComp elt [⟨t0,i0,Jp,0⟩,⟨t1,i1,if1,0⟩] scope pos) 0 it acc env=(do
  standAt i0.pos
  match <-pyNext it with
  |none=>pure (.done .next)
  |some v=>do
   letOwnedTupleGo t0 it v
   assign t0 env v
   let ok <-forIn Jp true λc r=>if r=true then do let ok <-PySem.isTrue c env (eval c env);pure (ForInStep.yield ok) else pure (ForInStep.yield r)
   if ok=true then do
    let x <-eval i1 env
    standAt i1.pos
    let x <-foldedSetIterable i1 env x
    let y <-holding [x] (pyIter x)
    let _ <-runOwn (.compStart (.ListComp elt [⟨t0,i0,Jp,0⟩,⟨t1,i1,if1,0⟩] scope pos) 1 y acc env) env
    again (.compLoop (.ListComp elt [⟨t0,i0,Jp,0⟩,⟨t1,i1,if1,0⟩] scope pos) 0 it acc env)
   else again (.compLoop (.ListComp elt [⟨t0,i0,Jp,0⟩,⟨t1,i1,if1,0⟩] scope pos) 0 it acc env)):=by
 unfold compTurn;rfl
theorem ou {elt target iter:Expr}{g0:Comprehension}{ifs:wW}{scope:Scope}{pos:Pos}{it acc:Value}{env:Env}(I:Nat->Shared->Prop)
 (turn:∀n s,I n s->wpAny (model prog w) A (pyNext it) (λr s₁=>match r with
  |none=>R (.ok .next) s₁
  |some v=>wpAny (model prog w) A (letOwnedTupleGo target it v) (λ_ s₁=>wpAny (model prog w) A (assign target env v) (λ_ s₂ =>
   wpAny (model prog w) A (forIn ifs true λc r=>if r=true then do let ok <-isTrue c env (eval c env);pure (ForInStep.yield ok) else pure (ForInStep.yield r)) (λok s₃ =>
    if ok=true then wpAny (model prog w) A (eval elt env) (λx s₄ =>
     wpAny (model prog w) A (call (.builtin "list.append") [acc,x]) (λ_ s₅=>∃m,m<n/\I m s₅) (λ_ _=>False) s₄) (λ_ _=>False) s₃
    else ∃m,m<n/\I m s₃) (λ_ _=>False) s₂) (λ_ _=>False) s₁) (λ_ _=>False) s₁) (λ_ _=>False) s)
 (n:Nat)(h:I n s):
 codeAny (model prog w) A (.compLoop (.ListComp elt [g0,⟨target,iter,ifs,0⟩] scope pos) 1 it acc env) R s:=by
 refine codeAny_loop rfl I (λn s hI=>?_) n h;show wpAny _ A ((compTurn (.ListComp elt [g0,⟨target,iter,ifs,0⟩] scope pos) 1 it acc env).onRaise (λx=>do noteFrame x env;theTreesLotGoes x)) _ _ s;refine wpAny_noted ?_;rw[oy];refine wpAny_bind (wpAny_standAt (wpAny_bind (wpAny_mono (turn n s hI) (λr s₁ h₁=>?_) λ_ _ z=>False.elim z)))
 cases r with
 |none=>exact wpAny_pure h₁
 |some v =>
  refine wpAny_bind (wpAny_mono h₁ (λ_ Sd Lb=>?_) λ_ _ z=>False.elim z);refine wpAny_bind (wpAny_mono Lb (λ_ s₂ h₂=>wpAny_bind (wpAny_mono h₂ (λok s₃ h₃=>?_) λ_ _ z=>False.elim z)) λ_ _ z=>False.elim z)
  cases ok with
  |false=>exact wpAny_pure ⟨rfl,h₃⟩
  |true =>
   exact wpAny_bind (wpAny_bind (wpAny_mono h₃ (λx s₄ h₄=>wpAny_bind (wpAny_mono h₄ (λ_ s₅ h₅=>wpAny_pure (wpAny_pure ⟨rfl,h₅⟩)) λ_ _ z=>False.elim z)) λ_ _ z=>False.elim z))
theorem m4 {elt t0 i0 t1 i1:Expr}{Jp if1:wW}{scope:Scope}{pos:Pos}{it acc:Value}{env:Env}(I:Nat->Shared->Prop)(NK:∀x,foldedSetIterable i1 env x=pure x)
 (turn:∀n s,I n s->wpAny (model prog w) A (pyNext it) (λr s₁=>match r with
  |none=>R (.ok .next) s₁
  |some v=>wpAny (model prog w) A (letOwnedTupleGo t0 it v) (λ_ s₁=>wpAny (model prog w) A (assign t0 env v) (λ_ s₂ =>
   wpAny (model prog w) A (forIn Jp true λc r=>if r=true then do let ok <-isTrue c env (eval c env);pure (ForInStep.yield ok) else pure (ForInStep.yield r)) (λok s₃ =>
    if ok=true then wpAny (model prog w) A (eval i1 env) (λx s₄ =>
     wpAny (model prog w) A (holding [x] (pyIter x)) (λy s₅=>wpAny (model prog w) A (runOwn (.compStart (.ListComp elt [⟨t0,i0,Jp,0⟩,⟨t1,i1,if1,0⟩] scope pos) 1 y acc env) env) (λ_ s₆=>∃m,m<n/\I m s₆) (λ_ _=>False) s₅) (λ_ _=>False) s₄) (λ_ _=>False) s₃
    else ∃m,m<n/\I m s₃) (λ_ _=>False) s₂) (λ_ _=>False) s₁) (λ_ _=>False) s₁) (λ_ _=>False) s)
 (n:Nat)(h:I n s):
 codeAny (model prog w) A (.compLoop (.ListComp elt [⟨t0,i0,Jp,0⟩,⟨t1,i1,if1,0⟩] scope pos) 0 it acc env) R s:=by
 refine codeAny_loop rfl I (λn s hI=>?_) n h;show wpAny _ A ((compTurn (.ListComp elt [⟨t0,i0,Jp,0⟩,⟨t1,i1,if1,0⟩] scope pos) 0 it acc env).onRaise (λx=>do noteFrame x env;theTreesLotGoes x)) _ _ s;refine wpAny_noted ?_;rw[mO];refine wpAny_bind (wpAny_standAt (wpAny_bind (wpAny_mono (turn n s hI) (λr s₁ h₁=>?_) λ_ _ z=>False.elim z)))
 cases r with
 |none=>exact wpAny_pure h₁
 |some v =>
  refine wpAny_bind (wpAny_mono h₁ (λ_ Sd Lb=>?_) λ_ _ z=>False.elim z);refine wpAny_bind (wpAny_mono Lb (λ_ s₂ h₂=>wpAny_bind (wpAny_mono h₂ (λok s₃ h₃=>?_) λ_ _ z=>False.elim z)) λ_ _ z=>False.elim z)
  cases ok with
  |false=>exact wpAny_pure ⟨rfl,h₃⟩
  |true =>
   refine wpAny_bind (wpAny_mono h₃ (λx s₄ h₄=>?_) λ_ _ z=>False.elim z);refine wpAny_bind (wpAny_standAt ?_);rw[NK];refine wpAny_bind (wpAny_pure ?_);exact wpAny_bind (wpAny_mono h₄ (λy s₅ h₅=>wpAny_bind (wpAny_mono h₅ (λ_ s₆ h₆=>wpAny_pure ⟨rfl,h₆⟩) λ_ _ z=>False.elim z)) λ_ _ z=>False.elim z)
theorem gr {elt target iter g0 ifs scope pos it acc env}
 (h0:codeAny (model prog w) A (.compLoop (.ListComp elt [g0,⟨target,iter,ifs,0⟩] scope pos) 1 it acc env) R s)
 (h:wpAny (model prog w) A (pyIter it) (λLx s'=>codeAny (model prog w) A (.compLoop (.ListComp elt [g0,⟨target,iter,ifs,0⟩] scope pos) 1 Lx acc env) R s')
  (notedBy (model prog w) A env λx s'=>R (.error x) s') s):
 codeAny (model prog w) A (.compStart (.ListComp elt [g0,⟨target,iter,ifs,0⟩] scope pos) 1 it acc env) R s:=by
 refine codeAny_of_tree ?_;show wpAny _ _ ((compStart (.ListComp elt [g0,⟨target,iter,ifs,0⟩] scope pos) 1 it acc env).onRaise (λx=>do noteFrame x env;standAt theWindowsPlace)) _ _ s;refine wpAny_notedAt ?_;unfold compStart;show wpAny _ _ (ask>>=_) _ _ s;refine wpAny_bind (wpAny_askSetting (wpAny_ite ?_))
 split
 ·first
   |exact wpAny_bind (wpAny_pure (wpAny_pure (And.intro rfl h0)))
   |exact wpAny_pure (And.intro rfl h0)
 ·first
   |exact wpAny_bind (wpAny_rule (wpAny_bind (wpAny_standAt (wpAny_bind (wpAny_mono h (λLx s' h'=>wpAny_pure (And.intro rfl h')) λ_ _ x=>x)))))
   |(refine wpAny_bind (wpAny_rule ?_);show wpAny _ _ (standAt iter.pos>>=_) _ _ s;exact wpAny_bind (wpAny_standAt (wpAny_bind (wpAny_mono h (λLx s' h'=>wpAny_pure (And.intro rfl h')) λ_ _ x=>x))))
end
section
variable {X:Cx}{tg iter elt Ku GP:Expr}{ifs Ij:wW}{scope osc:Scope}{pos:Pos}{N:nO}{nl:Nat}{js:List Nat}
noncomputable def C8 (J:It)(g:TG)(tt:TT)(te:TE)(W:Nat->Nat->List V->St->Hp->Prop)(Fin:List V->St->Hp->Prop):Prop :=
 ∀i m xs σ' H',W i m xs σ' H'->xs.length<sizeLine/\((J.stop i H'/\Fin xs σ' H') \/
  (J.go i H'/\∀x H2,J.yld i H' x H2->g x σ' H2 λσ3 H3=>tt σ3 H3 λb H4 =>
   if b=true then te σ3 H4 λy H5=>∃m',m'<m/\W (i+1) m' (xs++[y]) σ3 H5 else ∃m',m'<m/\W (i+1) m' xs σ3 H4))
noncomputable def wH (J:It)(g:TG)(tt:TT)(JR:TI)(g1:TG)(JS:TT)(te:TE)(W:Nat->Nat->List V->St->Hp->Prop)(Fin:List V->Hp->Prop):Prop :=
 ∀i m xs σ' H',W i m xs σ' H'->xs.length<sizeLine/\((J.stop i H'/\Fin xs H') \/
  (J.go i H'/\∀x H2,J.yld i H' x H2->g x σ' H2 λσ3 H3=>tt σ3 H3 λb H4 =>
   if b=true then JR σ3 H4 λJ1 H5=>∃W1:Nat->Nat->List V->St->Hp->Prop,(∃m1,W1 0 m1 xs σ3 H5)/\C8 J1 g1 JS te W1 λys σ6 H6=>∃m',m'<m/\W (i+1) m' ys σ6 H6
   else ∃m',m'<m/\W (i+1) m' xs σ3 H4))
theorem oj {pins:List (Addr×Obj)}{σ:St}{H:Hp}{s:Fp}{J:It}{it:Addr}{fp:List Addr}{tn:Nat->Heap->Prop}{g g1:TG}{tt JS:TT}{JR:TI}{te:TE}{W:Nat->Nat->List V->St->Hp->Prop}{Fin:List V->Hp->Prop}
 {E:oP}{RR:Value->Addr->Result->Shared->Prop}
 (S:A7 X N nl js osc scope)(hc:X.calm=true)(hg:∀C fp s H,PG (bQ X N scope C fp s H) tg g)(ht:∀C fp s H,uS (bQ X N scope C fp s H) ifs tt)(Tj:∀C fp s H,PI (bQ X N scope C fp s H) Ku GP JR)(Tn:∀C fp s H,PG (bQ X N scope C fp s H) Ku g1)(Jo:∀C fp s H,uS (bQ X N scope C fp s H) Ij JS)(he:∀C fp s H,PE (bQ X N scope C fp s H) elt te)
 (I:Inv X pins σ H s)(T:Turn X.prog X.w X.K tg J fp it tn)(st:tn 0 s.heap)(f:∀b∈fp,cq X pins H b)(w0:∃m,W 0 m [] (σC nl js σ) H)(hW:wH J g tt JR g1 JS te W Fin)(Lv:∀env x,foldedSetIterable GP env x=pure x)
 (MX:∀(D C:Addr)(H':Hp)(s':Fp)(xs:List V)(m:yN),Inv X pins σ (upd H' D (.lst xs)) s'->H' D=none->s'.heap.Ns C m->cq X pins (upd H' D (.lst xs)) C->Fin xs H'->RR (.ref D) C (.ok .next) s'):
 wpAny (model X.prog X.w) X.A (newList []) (λacc s₃=>wpAny (model X.prog X.w) X.A (newFunctionEnv scope X.env.globals (dn scope.names X.env) [] X.env.qual none .none (some X.env)) (λHC s₄ =>
  codeAny (model X.prog X.w) X.A (.compStart (.ListComp elt [⟨tg,iter,ifs,0⟩,⟨Ku,GP,Ij,0⟩] scope pos) 0 (.ref it) acc {HC with scope:=relabel scope X.env}) (RR acc HC.locals) s₄) E s₃) E s:=by
 have Iu:∀b∈fp,b<s.heap.objs.size:=λb hb=>by
  obtain⟨o,e,_⟩:=T.obj 0 _ st b hb;exact Heap.lt_size e
 refine wpAny_newObj_type (wpAny_newFunctionEnv S.cell (by intro y hy;simp at hy) (λh₁ GY GI=>?_) S.kind);dsimp only at GY GI |-;generalize Jk:s.heap.push {cls:=.type "list",dict:=none,data:=.seq ([]:xF).toArray}=H2 at GY GI |-
 have hC:H2.objs.size=s.heap.objs.size+1:=by rw[<-Jk,Heap.size_push]
 have Jl:s.heap.objs.size≠H2.objs.size:=by rw[hC];exact Nat.ne_of_lt (Nat.lt_succ_self _)
 have below:∀b,b<s.heap.objs.size->b≠H2.objs.size/\b≠s.heap.objs.size:=λb hb=>⟨by rw[hC];exact Nat.ne_of_lt (Nat.lt_succ_of_lt hb),Nat.ne_of_lt hb⟩;have old:∀b o,s.heap.get? b=some o->h₁.get? b=some o:=λb o e=>GI.extBut b o (below b (Heap.lt_size e)).1 (Heap.get?_push_of_some _ (Jk▸Heap.get?_push_of_some _ e));have Le:h₁.get? s.heap.objs.size=some {cls:=.type "list",data:=.seq ([]:xF).toArray 0}:=GI.extBut _ _ Jl (Heap.get?_push_of_some _ (Jk▸Heap.get?_push_size _ rfl))
 have HN:s.heap.objs.size<=H2.objs.size:=by rw[hC];exact Nat.le_succ _
 have Gy:∀y∈scope.names,y.2=.free->∃c,X.env.cells.lookup y.1=some c:=λy hy hf=>by
  have z:=S.free y hy hf;rw[<-S.out] at z;exact I.ok.has y.1 z
 have sub:∀x c,(dn scope.names X.env).lookup x=some c->X.env.cells.lookup x=some c:=λx c e=>ig Gy e
 have Se:∀x c,(dn scope.names X.env).lookup x=some c->c<s.heap.objs.size:=λx c e=>by
  obtain⟨v,q⟩:=I.cell x c (sub x c e);exact q.lt
 have Jz:∀b∈fp,b∉dz X.stack:=λb hb z=>by
  rcases List.mem_cons.mp (I.aao b z) with q|q
  ·exact(f b hb).2.1 q
  ·exact(f b hb).2.2.1 q
 have Mu:s.heap.objs.size∉dz X.stack:=λz=>by
  rcases List.mem_cons.mp (I.aao _ z) with q|q
  ·exact absurd I.lt (by rw[<-q];exact Nat.lt_irrefl _)
  ·exact I.ab0 (Nat.le_refl _) q
 have MZ:s.heap.objs.size∉fp:=λz=>Nat.lt_irrefl _ (Iu _ z)
 have IE:∀{H':Hp}{ob:Obj},(∀b∈fp,H' b=none)->∀b∈fp,cq (bQ X N scope H2.objs.size fp s H) [(s.heap.objs.size,ob)] H' b:=λ{H' ob} hn b hb =>
  ⟨hn b hb,(below b (Iu b hb)).1,Jz b hb,.inl hb,λx c e=>(f b hb).2.2.2.2.1 x c (sub x c e),λp hp z=>by
   have e:p=(s.heap.objs.size,ob):=by
    have:p∈[(s.heap.objs.size,ob)]:=hp;simpa using this
   subst e
   exact MZ (by rw[show s.heap.objs.size=b from z];exact hb)⟩
 have Sf:∀{H':Hp},H' s.heap.objs.size=none->cq (bQ X N scope H2.objs.size fp s H) [] H' s.heap.objs.size:=λ{H'} hn =>
  ⟨hn,Jl,Mu,.inr (Nat.le_refl _),λx c e=>Nat.ne_of_lt (Se x c e),λp hp=>absurd (show p∈([]:List (Addr×Obj)) from hp) (by simp)⟩
 have JA:∀{σ':St}{H':Hp}{s':Fp}{ys:xF}{k:Nat},Inv (bQ X N scope H2.objs.size fp s H) [] σ' H' s'->H' s.heap.objs.size=none->s'.heap.get? s.heap.objs.size=some (iB ys k) →
  Inv (bQ X N scope H2.objs.size fp s H) [(s.heap.objs.size,iB ys k)] σ' H' s':=λ{σ' H' s' ys k} I' hn hl=>I'.aap λp hp=>by
  have e:p=(s.heap.objs.size,iB ys k):=by simpa using hp
  subst e;exact⟨hl,hn,Jl,Mu,λv z=>by cases z⟩
 have ik:∀s₃:Shared,s₃={s with heap:=h₁,toks:=s.toks+([]:List (Str×Value)).length} →
  codeAny (model X.prog X.w) X.A (.compLoop (.ListComp elt [⟨tg,iter,ifs,0⟩,⟨Ku,GP,Ij,0⟩] scope pos) 0 (.ref it) (.ref s.heap.objs.size) (compEnvC scope (dn scope.names X.env) H2.objs.size X.env))
   (RR (.ref s.heap.objs.size) H2.objs.size) s₃:=by
  rintro s₃ rfl;obtain⟨m0,w0⟩:=w0;have I0:Inv (bQ X N scope H2.objs.size fp s H) [] (σC nl js σ) H {s with heap:=h₁,toks:=s.toks+([]:List (Str×Value)).length}:=i5 S I f Iu HN old GY
  refine m4 (λn s'=>∃i σ' H' xs ys k,Inv (bQ X N scope H2.objs.size fp s H) [(s.heap.objs.size,iB ys k)] σ' H' s'/\tn i s'.heap/\(∀b∈fp,H' b=none)/\aR xs ys/\W i n xs σ' H') (Lv _) ?_ m0
   ⟨0,σC nl js σ,H,[],[],0,JA I0 (I.hok.fresh (Nat.le_refl _)) Le,T.keep _ _ _ st λb _ o e=>old b o e,λb hb=>(f b hb).1,.nil,w0⟩
  rintro n s' ⟨i,σ',H',xs,ys,k,I',GG,Kd,rv,w'⟩;obtain⟨hz,hw⟩:=hW i n xs σ' H' w'
  rcases hw with⟨stop,fin⟩|⟨go,step⟩
  ·refine wpAny_mono (T.done (bQ X N scope H2.objs.size fp s H) rfl rfl rfl hc i _ s' σ' H' (λ_ _=>False) I' (IE Kd) GG stop) (λr s1 z'=>?_) λ_ _ z=>z;obtain⟨hr,I1⟩:=z';subst hr;obtain⟨p1,p2,_⟩:=I1.pin (s.heap.objs.size,iB ys k) (by show _∈([]:List (Addr×Obj))++[_];simp);have u1:Un (dz X.stack) fp H H' s.heap s1.heap:=I1.base
   have u2:Un (dz X.stack) fp H (upd H' s.heap.objs.size (.lst xs)) s.heap s1.heap:=⟨u1.keep,u1.slot,λb o e n hx=>by rw[ai (Nat.ne_of_lt (Heap.lt_size e))];exact u1.free b o e n hx,u1.there,
    λb zs e=>by rw[ai (ar (u1.aam b zs e) p2)];exact u1.aam b zs e,λb o zs e=>by rw[ai (ar (u1.aak b o zs e) p2)];exact u1.aak b o zs e,λb ps e=>by
     obtain⟨mo,q⟩:=u1.aas b ps e
     exact⟨mo,by rw[ai (ar q p2)];exact q⟩⟩
   have hk:eK X.prog X.w (upd H' s.heap.objs.size (.lst xs)) s1.heap:=c7 I1.hok p2 ⟨Nat.le_of_lt hz,ys,k,rv,p1⟩;have I3:Inv X pins σ (upd H' s.heap.objs.size (.lst xs)) s1:=I.aa7 I1.os u2 hk I1.bare λb hb=>⟨(f b hb).2.2.2.1,(f b hb).2.1,(f b hb).2.2.2.2.1,(f b hb).2.2.2.2.2⟩;obtain⟨mm,M0,_⟩:=I1.loc
   have Sg:upd H' s.heap.objs.size (.lst xs) H2.objs.size=none:=by rw[ai (Ne.symm Jl)];exact I1.free
   exact MX _ _ H' s1 xs mm I3 p2 M0 (I.aaK HN Sg) fin
  ·refine wpAny_mono (T.item (bQ X N scope H2.objs.size fp s H) rfl rfl rfl hc i _ s' σ' H' (λ_ _=>False) I' (IE Kd) GG go) (λr s1 z'=>?_) λ_ _ z=>z;obtain⟨u,hr,h4⟩:=z';subst hr;refine wpAny_mono h4 (λ_ s2 z'=>?_) λ_ _ z=>z;obtain⟨x,Ke,I2,r2,y2,GX,M1⟩:=z';have M3:=I2.pinned (IE M1) (T.obj _ _ GX);refine wpAny_mono (hg _ _ _ _ _ s2 σ' Ke x u _ M3 r2 (step x Ke y2)) (λ_ s3 z'=>?_) λ_ _ z=>z;obtain⟨σ3,H3,I3,q3⟩:=z';refine wpAny_mono (ht _ _ _ _ _ s3 σ3 H3 _ I3 q3) (λok s4 z'=>?_) λ_ _ z=>z;obtain⟨H4,I4,q4⟩:=z'
   have IQ:∀{s5:Fp}{H5:Hp}{σ5:St}{Xz:xF}{k5:Nat},Inv (bQ X N scope H2.objs.size fp s H) ([(s.heap.objs.size,iB Xz k5)]++di fp s2.heap) σ5 H5 s5->tn (i+1) s5.heap/\∀b∈fp,H5 b=none:=λ{s5 H5 σ5 Xz k5} I5 =>
    ⟨T.keep _ _ _ GX λb hb o e=>(I5.pin (b,o) (List.mem_append_right _ (List.mem_append_right _ (cg hb e)))).1,λb hb=>by
     obtain⟨o,e,d⟩:=T.obj _ _ GX b hb
     exact(I5.pin (b,o) (List.mem_append_right _ (List.mem_append_right _ (cg hb e)))).2.1⟩
   cases ok with
   |false =>
    rw[if_neg Bool.false_ne_true] at q4 |-;obtain⟨m',hm,w4⟩:=q4;exact⟨m',hm,i+1,σ3,H4,xs,ys,k,I4.aai,(IQ I4).1,(IQ I4).2,rv,w4⟩
   |true =>
    rw[if_pos rfl] at q4 |-;refine wpAny_mono (Tj _ _ _ _ _ s4 σ3 H4 _ I4 q4) (λv s5 h5=>wpAny_holding (wpAny_mono h5 (λKb s6 h6=>?_) λ_ _ z=>z)) λ_ _ z=>z;obtain⟨it1,ME,XA,J1,H6,e,I6,T1,XB,f6,W1,⟨m1,w1⟩,hW1⟩:=h6;subst e;have pl:∀{s7:Fp}{H7:Hp}{σ7:St}{HL:xF}{k7:Nat},Inv (bQ X N scope H2.objs.size fp s H) ([(s.heap.objs.size,iB HL k7)]++di fp s2.heap) σ7 H7 s7->∀p∈di fp s2.heap,s7.heap.get? p.1=some p.2/\H7 p.1=none/\p.1≠H2.objs.size/\p.1∉dz X.stack/\∀v,p.2.data≠.cell v:=λI7 p hp=>I7.pin p (List.mem_append_right _ (List.mem_append_right _ hp))
    have To:∀{H7:Hp}{HL:xF}{k7:Nat},(∀b∈ME,H7 b=none)->∀b∈ME,cq (bQ X N scope H2.objs.size fp s H) ([(s.heap.objs.size,iB HL k7)]++di fp s2.heap) H7 b:=λ{H7 HL k7} hn b hb=>by
     obtain⟨g0,Nh,g2,g3,g4,g5⟩:=f6 b hb;refine⟨hn b hb,Nh,g2,g3,g4,λp hp=>?_⟩
     rcases List.mem_append.mp (show p∈[(s.heap.objs.size,iB HL k7)]++di fp s2.heap from hp) with z|z
     ·have e:p=(s.heap.objs.size,iB HL k7):=by simpa using z
      subst e;exact g5 (s.heap.objs.size,iB ys k) (List.mem_append_right _ (List.mem_append_left _ (by simp)))
     ·exact g5 p (List.mem_append_right _ (List.mem_append_right _ z))
    refine wpAny_runOwn ?_;show codeAny _ X.A _ _ s6
    have Kv:codeAny (model X.prog X.w) X.A (.compLoop (.ListComp elt [⟨tg,iter,ifs,0⟩,⟨Ku,GP,Ij,0⟩] scope pos) 1 (.ref it1) (.ref s.heap.objs.size) (compEnvC scope (dn scope.names X.env) H2.objs.size X.env))
     (λr s'=>match r with
      | .ok f=>∃m,m<n/\∃i σ' H' xs ys k,Inv (bQ X N scope H2.objs.size fp s H) [(s.heap.objs.size,iB ys k)] σ' H' s'/\tn i s'.heap/\(∀b∈fp,H' b=none)/\aR xs ys/\W i m xs σ' H'
      | .error e=>cameBackBy (model X.prog X.w) X.A (compEnvC scope (dn scope.names X.env) H2.objs.size X.env) (λ_ _=>False) e s') s6:=by
     refine ou (λn' s'=>∃j σ' H' XC XD k',Inv (bQ X N scope H2.objs.size fp s H) ([(s.heap.objs.size,iB XD k')]++di fp s2.heap) σ' H' s'/\XA j s'.heap/\(∀b∈ME,H' b=none)/\aR XC XD/\W1 j n' XC σ' H') ?_ m1
      ⟨0,σ3,H6,xs,ys,k,I6,XB,λb hb=>(f6 b hb).1,rv,w1⟩
     rintro n' s7 ⟨j,σ7,H7,RD,HL,k7,I7,XE,XF,RE,w7⟩;obtain⟨hz7,hw7⟩:=hW1 j n' RD σ7 H7 w7
     rcases hw7 with⟨stop,m',hm,fin⟩|⟨go,step⟩
     ·refine wpAny_mono (T1.done (bQ X N scope H2.objs.size fp s H) rfl rfl rfl hc j _ s7 σ7 H7 (λ_ _=>False) I7 (To XF) XE stop) (λr s8 z'=>?_) λ_ _ z=>z;obtain⟨hr,I8⟩:=z';subst hr;have bk:=IQ I8;exact⟨m',hm,i+1,σ7,H7,RD,HL,k7,I8.aai,bk.1,bk.2,RE,fin⟩
     ·refine wpAny_mono (T1.item (bQ X N scope H2.objs.size fp s H) rfl rfl rfl hc j _ s7 σ7 H7 (λ_ _=>False) I7 (To XF) XE go) (λr s8 z'=>?_) λ_ _ z=>z;obtain⟨u8,hr,h8⟩:=z';subst hr;refine wpAny_mono h8 (λ_ s9 z'=>?_) λ_ _ z=>z;obtain⟨x9,H9,I9,r9,y9,Tp,fr9⟩:=z';have I9':=I9.pinned (To fr9) (T1.obj _ _ Tp);refine wpAny_mono (Tn _ _ _ _ _ s9 σ7 H9 x9 u8 _ I9' r9 (step x9 H9 y9)) (λ_ sa z'=>?_) λ_ _ z=>z;obtain⟨σa,Ha,Ia,qa⟩:=z';refine wpAny_mono (Jo _ _ _ _ _ sa σa Ha _ Ia qa) (λok sb z'=>?_) λ_ _ z=>z;obtain⟨Hb,Ib,qb⟩:=z'
      have IS:∀{sc:Fp}{Hc:Hp},Inv (bQ X N scope H2.objs.size fp s H) (([(s.heap.objs.size,iB HL k7)]++di fp s2.heap)++di ME s9.heap) σa Hc sc->XA (j+1) sc.heap/\∀b∈ME,Hc b=none:=λ{sc Hc} Ic =>
       ⟨T1.keep _ _ _ Tp λb hb o e=>(Ic.pin (b,o) (List.mem_append_right _ (List.mem_append_right _ (cg hb e)))).1,λb hb=>by
        obtain⟨o,e,d⟩:=T1.obj _ _ Tp b hb
        exact(Ic.pin (b,o) (List.mem_append_right _ (List.mem_append_right _ (cg hb e)))).2.1⟩
      cases ok with
      |false =>
       rw[if_neg Bool.false_ne_true] at qb |-;obtain⟨m',hm,wb⟩:=qb;exact⟨m',hm,j+1,σa,Hb,RD,HL,k7,Ib.aai,(IS Ib).1,(IS Ib).2,RE,wb⟩
      |true =>
       rw[if_pos rfl] at qb |-;refine wpAny_mono (he _ _ _ _ _ sb σa Hb _ Ib qb) (λvc sc z'=>?_) λ_ _ z=>z;obtain⟨yc,Hc,Ic,rc,m',hm,wc⟩:=z';obtain⟨stc,frc⟩:=IS Ic;have Id:=Ic.aai;obtain⟨p1,p2,_⟩:=Id.pin (s.heap.objs.size,iB HL k7) (List.mem_append_right _ (List.mem_append_left _ (by simp)));have df1:s.heap.objs.size∉ME:=λhb=>(f6 _ hb).2.2.2.2.2 (s.heap.objs.size,iB ys k) (List.mem_append_right _ (List.mem_append_left _ (by simp))) rfl;refine append_at (its:=HL.toArray) p1 (λh' HV hD=>?_) (by rw[List.size_toArray,<-RE.length];exact Nat.le_of_lt hz7);have JE:Inv (bQ X N scope H2.objs.size fp s H) [] σa Hc {sc with heap:=h'}:=cm (Id.aap (pins':=[]) λp hp=>absurd hp (by simp)) (Sf p2) HV
       have Lq:h'.get? s.heap.objs.size=some (iB (HL++[vc]) (k7+1)):=by
        rw[hD];show some _=some (iB (HL++[vc]) (k7+1));rw[iB,<-List.push_toArray]
       refine⟨m',hm,j+1,σa,Hc,RD++[yc],HL++[vc],k7+1,JE.aap λp hp=>?_,T1.keep _ _ _ stc λb hb o e=>(HV.2 b λz=>df1 (z▸hb)).trans e,frc,RE.append (.cons rc .nil),wc⟩
       rcases List.mem_append.mp hp with z|z
       ·have e:p=(s.heap.objs.size,iB (HL++[vc]) (k7+1)):=by simpa using z
        subst e;exact⟨Lq,p2,Jl,Mu,λv z=>by cases z⟩
       ·obtain⟨a1,a2,a3,a4,a5⟩:=pl Id p z;exact⟨(HV.2 p.1 λe=>MZ (e▸(mx z).1)).trans a1,a2,a3,a4,a5⟩
    exact gr Kv (T1.self X.A 0 _ _ _ XB Kv)
 exact codeAny_compStart_list (ik _ rfl) (T.self X.A 0 _ _ _ (T.keep _ _ _ st λb _ o e=>old b o e) (ik _ rfl))
noncomputable def Ab (wi:TI)(g:TG)(tt:TT)(JR:TI)(g1:TG)(JS:TT)(te:TE)(nl:Nat)(js:List Nat):TE:=λσ H Q=>wi σ H λJ H1 =>
 ∃W:Nat->Nat->List V->St->Hp->Prop,(∃m,W 0 m [] (σC nl js σ) H1)/\wH J g tt JR g1 JS te W λxs H'=>∀D,H' D=none->Q (.ref D) (upd H' D (.lst xs))
theorem u6 {wi JR:TI}{g g1:TG}{tt JS:TT}{te:TE}(S:A7 X N nl js osc scope)(hc:X.calm=true)(hi:PI X tg iter wi)(hg:∀C fp s H,PG (bQ X N scope C fp s H) tg g)(ht:∀C fp s H,uS (bQ X N scope C fp s H) ifs tt)
 (Tj:∀C fp s H,PI (bQ X N scope C fp s H) Ku GP JR)(Tn:∀C fp s H,PG (bQ X N scope C fp s H) Ku g1)(Jo:∀C fp s H,uS (bQ X N scope C fp s H) Ij JS)
 (he:∀C fp s H,PE (bQ X N scope C fp s H) elt te)(hs:∀x,foldedSetIterable iter X.env x=pure x:=by intro _;rfl)(Lv:∀env x,foldedSetIterable GP env x=pure x:=by intro _ _;rfl):
 PE X (.ListComp elt [⟨tg,iter,ifs,0⟩,⟨Ku,GP,Ij,0⟩] scope pos) (Ab wi g tt JR g1 JS te nl js):=by
 intro pins s σ H Q I h;rw[eval_ListComp];refine wpAny_comprehension_free (use:=none) rfl hs (dW S I) S.kind S.names (bA (hi pins s σ H _ I h) λv s1 h1=>bA h1 λKb s2 h2=>?_);obtain⟨it,fp,tn,J,H2,e,I2,T,GX,f2,W,w0,hW⟩:=h2;subst e;refine oj (RR:=λacc C=>compPost (model X.prog X.w) X.A X.xe none (EP X pins σ Q) acc C) S hc hg ht Tj Tn Jo he I2 T GX f2 w0 hW Lv ?_;intro D C H' s' xs m I3 hD hn fC fin;exact⟨m,hn,λh' sb=>⟨.ref D,_,cm I3 fC sb,rfl,fin D hD⟩⟩
end
end L2
namespace K26
open PySem L2 PySem.W Nm Srt
noncomputable abbrev Dh:Stmt:=(aJ 63)
noncomputable abbrev Fe:Stmt:=(aJ 28)
noncomputable abbrev D5:Stmt:=(aJ 35)
noncomputable abbrev Du:Stmt:=(aJ 37)
noncomputable abbrev Dl:Stmt:=(aJ 38)
noncomputable abbrev E9:Stmt:=(aJ 64)
theorem BZ:yd ["system","degree","thing","noughts"] ya (ak Dh):=c9 (by decide +kernel)
theorem Bl:yd ["numbers","bottom","number"] ["numbers"] (ak Fe):=c9 (by decide +kernel)
theorem DX:yd ["sums"] ["sums"] (ak D5):=c9 (by decide +kernel)
theorem uG:yd ["pairs","first","second","totals","one","other","factors","mask","number","more","factor","both"] ["pairs"] (ak Du):=c9 (by decide +kernel)
theorem BF:yd qx qx (ak Dl):=c9 (by decide +kernel)
theorem zN:yd ["system","degree","thing","totals","bottom"] ya (ak E9):=c9 (by decide +kernel)
noncomputable def By (CS CF:Addr):Sp:=λvs H Q _=>∃(sy fl:Addr)(p n:Int)(as bs:List Addr)(i:Int)(y:V),vs=[.ref sy,.int i,y]/\A4 CS CF H sy fl p n as bs/\Tg H y /\
 ((∀H',ax H H'->Q (.bl false) H')/\∀a,y=.ref a->H a=some (.lst [])->as=[]->∀H',ax H H'->Q (.bl true) H')
noncomputable def zI:Sp:=λvs H Q _=>∃l:Addr,vs=[.ref l]/\H l=some (.lst [])/\Q (.int 1) H
noncomputable def Fx:Sp:=λvs H Q _=>∃l:Addr,vs=[.ref l]/\H l=some (.lst [])/\∀H',ax H H'->Q (.int 1) H'
noncomputable def FJ:Sp:=λvs H Q _=>∃l:Addr,vs=[.ref l]/\H l=some (.lst [])/\∀H' t D,ax H H'->H' t=some (.tup [.ref D,.int 1])->H' D=some (.dT [])->H D=none->Q (.ref t) H'
noncomputable def jo:Sp:=λvs H Q _=>∃(D:Addr)(p:Int),vs=[.ref D,.int p]/\H D=some (.dT [])/\∀H' E,SameBut D H H'->H' E=some (.dT [])->Q (.ref E) H'
noncomputable def Cg (CS CF CN:Addr):Sp:=λvs H Q E=>∃(sy fl:Addr)(p n:Int)(as bs:List Addr)(x y:V)(T:String),vs=[.ref sy,x,y]/\A4 CS CF H sy fl p n as bs/\Th H x T/\Tg H y /\
 (eC x=true->∀H',ax H H'->Q (.bl false) H')/\(eC x=false->E (.ref CN) none H)
variable {P:zO}{w:World}{K:PySem.W.Frag}{mg:yN}{base:Heap}
variable {f:Addr}{fd:vH}
theorem C5 {NL CS CF:Addr}{IT:vH}(F:xR K "are_multipliers" "are_multipliers" Dh f fd)(cS:pV K mg CS)(m_len:mg "len"=none)(FR:mg "isinstance"=none)(F7:mg "list"=none)(Gu:mg "all"=none)(GF:mg "zip"=none)
 (Tq:Ef P w K mg base (aO P w) 1 NL IT ["self"] (AN CS CF))(Tr:L2.az K IT ["self"] [])(Ts:L2.Meth K CS "noughts" NL):Ef P w K mg base (aO P w) 2 f fd ya (By CS CF):=by
 refine F.okN BZ (λvs H Q E h=>?_) (λFV A outer s H vs Q E hr h=>?_)
 ·obtain⟨sy,fl,p,n,as,bs,i,y,rfl,_⟩:=h;rfl
 ·obtain⟨sy,fl,p,n,as,bs,i,y,rfl,S,hy,q,q2⟩:=h;have Gb:Fq 1 _:=hr.mono (by decide)
  refine⟨_,(ao (@aM _ _ 3 _ _ _ _ BZ.nd rfl (Or.inl rfl) (dM (pv 0) cS.cl Ts Tq Gb Tr .nil af) rfl (Or.inl rfl))
   (ao (bc (PW.pt (eX (bR (b8 (aB aN (by rfl) FR (by rfl) (@aj _ _ _ _ _ (pv 2) (@aj _ _ _ _ _ (cH (by rfl) F7 (by rfl) (show aD (.ty "list") (.type "list") from rfl)) ag rfl) rfl)))) (dA (@aI _ _ _ _ _ _ _ _ gI (aB bJ (by rfl) m_len PySem.boot_len (@aj _ _ _ _ _ (pv 2) ag rfl)) (aB bJ (by rfl) m_len PySem.boot_len (@aj _ _ _ _ _ (pv 3) ag rfl)) (aK _))))) (au (ay dG)) aF)
   (ao (bc (bR (b8 (aB (gh rfl) (by rfl) Gu (by rfl) (@aj _ _ _ _ _ (cI (N:=["one","system"]) (nl:=1) (js:=[0]) (osc:=ak Dh) ⟨rfl,rfl,by decide +kernel,by decide +kernel,by decide +kernel,rfl,(.cons ⟨rfl,by decide +kernel⟩ .nil),by decide +kernel⟩ rfl
    (cE (pv 2))
    (λCq fq sq Hq=>aA (i:=0) (by show(["one","system"]:nO).Nodup;decide +kernel) rfl (Or.inl rfl) (Or.inr rfl))
    (λCq fq sq Hq=>ck)
    (λCq fq sq Hq=>qZ)) ag rfl)))) (au (ay dG)) aF)
   (au (ay (aB (gh rfl) (by rfl) Gu (by rfl) (@aj _ _ _ _ _ (cI (g:=(gD K 2 (bX (aZ 0) (bX (aZ 1) DH)))) (N:=["one","nought","degree"]) (nl:=2) (js:=[1]) (osc:=ak Dh) ⟨rfl,rfl,by decide +kernel,by decide +kernel,by decide +kernel,rfl,(.cons ⟨rfl,by decide +kernel⟩ .nil),by decide +kernel⟩ rfl
    (yx (pv 2) (pv 3) (by rfl) GF)
    (λCq fq sq Hq=>(cf (X:=bQ _ ["one","nought","degree"] _ Cq fq sq Hq) rfl (aC (aA (X:=bQ _ ["one","nought","degree"] _ Cq fq sq Hq) (i:=0) (by show(["one","nought","degree"]:nO).Nodup;decide +kernel) rfl (Or.inl rfl) (Or.inr rfl)) (aC (aA (X:=bQ _ ["one","nought","degree"] _ Cq fq sq Hq) (i:=1) (by show(["one","nought","degree"]:nO).Nodup;decide +kernel) rfl (Or.inl rfl) (Or.inr rfl)) bH))))
    (λCq fq sq Hq=>ck)
    (λCq fq sq Hq=>qZ)) ag rfl))))))),?_⟩
  obtain⟨dx,F6,A1,B1,h1,_⟩:=S.ex;refine⟨_,rfl,sy,dx,_,rfl,h1,rfl,sy,fl,p,n,as,bs,rfl,S,λl hl=>?_⟩;have s0:=aq (o:=.lst (as.map V.ref)) hl;have el:upd H l (.lst (as.map V.ref)) l=some (.lst (as.map V.ref)):=ae;generalize upd H l (.lst (as.map V.ref))=H0 at s0 el |-
  cases hy with
  |lst e' =>
   rename_i a
   have e:=s0 _ _ e';refine⟨_,rfl,_,.ty "list",_,_,true,rfl,rfl,(Th.lst e).ty,rfl,_,rfl,bD ?_⟩;refine⟨_,rfl,a,_,rfl,.inl (ba.of e),_,rfl,l,_,rfl,.inl (ba.of el),rfl,_,rfl,?_⟩
   cases as with
   |cons b as =>
    refine cp (λ_=>q _ s0) λz=>absurd ?_ z;rw[jw];simp;omega
   |nil =>
    refine bD ?_;refine⟨_,rfl,a,rfl,⟨_,ba.of e⟩,λi' m xs σ' H'=>i'=0/\xs=[]/\H'=H0,⟨0,rfl,rfl,rfl⟩,?_⟩;rintro i' m xs σ' H' ⟨rfl,rfl,rfl⟩;refine⟨by decide,.inl ⟨⟨[],ba.of e,Nat.le_refl _⟩,λD hD=>?_⟩⟩;have s1:=s0.trans (aq (o:=.lst []) hD);refine⟨D,_,[],rfl,ba.of ae,.nil,_,rfl,bD ?_⟩;have e1:=aq (o:=.lst []) hD _ _ e;have Tt:=aq (o:=.lst []) hD _ _ el;generalize upd H' D (.lst [])=H1 at s1 e1 Tt |-;refine⟨_,rfl,_,rfl,a,l,[],[],rfl,ba.of e1,ba.of Tt,λi' m xs σ' H'=>i'=0/\xs=[]/\H'=H1,⟨0,rfl,rfl,rfl⟩,?_⟩;rintro i' m xs σ' H2 ⟨rfl,rfl,rfl⟩;refine⟨by decide,.inl ⟨⟨[],[],ba.of e1,ba.of Tt,.inl (Nat.le_refl _)⟩,λD hD=>?_⟩⟩;exact⟨D,_,[],rfl,ba.of ae,.nil,q2 a rfl e' rfl _ (s1.trans (aq hD))⟩
  |non=>exact⟨_,rfl,_,.ty "list",_,_,false,rfl,rfl,Th.non.ty,rfl,_,rfl,aW (aW (q _ s0))⟩
  |dic e=>exact⟨_,rfl,_,.ty "list",_,_,false,rfl,rfl,(Th.dK (s0 _ _ e)).ty,rfl,_,rfl,aW (aW (q _ s0))⟩
  |tup e=>exact⟨_,rfl,_,.ty "list",_,_,false,rfl,rfl,(Th.tup (s0 _ _ e)).ty,rfl,_,rfl,aW (aW (q _ s0))⟩
  |str=>exact⟨_,rfl,_,.ty "list",_,_,false,rfl,rfl,(Th.str _).ty,rfl,_,rfl,aW (aW (q _ s0))⟩
  |int=>exact⟨_,rfl,_,.ty "list",_,_,false,rfl,rfl,(Th.int _).ty,rfl,_,rfl,aW (aW (q _ s0))⟩
theorem BI (F:xR K "common_bottom" "common_bottom" Fe f fd):Ef P w K mg base (aO P w) 2 f fd ["numbers"] zI:=by
 refine F.okN Bl (λvs H Q E h=>?_) (λFV A outer s H vs Q E hr h=>?_)
 ·obtain⟨l,rfl,_⟩:=h;rfl
 ·obtain⟨l,rfl,hl,q⟩:=h
  refine⟨_,(ao (@aM _ _ 1 _ _ _ _ Bl.nd rfl (Or.inl rfl) ah rfl (Or.inl rfl))
   (ao (dJ PassesOwn.never rfl (cE (pv 0)) (aA (i:=2) Bl.nd rfl (Or.inl rfl))
   (au kY))
   (au (ay (pv 1))))),?_⟩
  refine⟨_,rfl,l,rfl,⟨[],ba.of hl⟩,?_⟩;refine⟨λi m σ' H'=>i=0/\H'=H/\∃o,σ'=[some (.ref l),some (.int 1),o],⟨0,rfl,rfl,none,rfl⟩,?_⟩;rintro i m σ' H' ⟨rfl,rfl,o,rfl⟩;exact .inl ⟨⟨[],ba.of hl,Nat.le_refl _⟩,_,rfl,q⟩
theorem CA {fc:Addr}{Hr:vH}(F:xR K "bottom_of" "bottom_of" D5 f fd)(FCB:Ef P w K mg base (aO P w) 2 fc Hr ["numbers"] zI)(bCB:L2.az K Hr ["numbers"] [])(mCB:mg "common_bottom"=some (.ref fc))(kCB:keepIn K (.ref fc)=true):Ef P w K mg base (aO P w) 3 f fd ["sums"] Fx:=by
 refine F.okN DX (λvs H Q E h=>?_) (λFV A outer s H vs Q E hr h=>?_)
 ·obtain⟨l,rfl,_⟩:=h;rfl
 ·obtain⟨l,rfl,hl,q⟩:=h;have Gz:Fq 2 _:=hr.mono (by decide)
  refine⟨_,(au (ay (av FCB Gz (by rfl) mCB kCB bCB .nil af (@aj _ _ _ _ _ (u6 (g1:=gD K 2 (bX (aZ 1) (bX (aZ 2) DH))) (N:=["one","product","number"]) (nl:=3) (js:=[]) (osc:=ak D5) ⟨rfl,rfl,by decide +kernel,by decide +kernel,by decide +kernel,rfl,.nil,by decide +kernel⟩ rfl
   (cE (pv 0))
   (λCq fq sq Hq=>aA (i:=0) (by show(["one","product","number"]:nO).Nodup;decide +kernel) rfl (Or.inl rfl) (Or.inr rfl))
   (λCq fq sq Hq=>ck)
   (λCq fq sq Hq=>Bx)
   (λCq fq sq Hq=>(cf (X:=bQ _ ["one","product","number"] _ Cq fq sq Hq) rfl (aC (aA (X:=bQ _ ["one","product","number"] _ Cq fq sq Hq) (i:=1) (by show(["one","product","number"]:nO).Nodup;decide +kernel) rfl (Or.inl rfl) (Or.inr rfl)) (aC (aA (X:=bQ _ ["one","product","number"] _ Cq fq sq Hq) (i:=2) (by show(["one","product","number"]:nO).Nodup;decide +kernel) rfl (Or.inl rfl) (Or.inr rfl)) bH))))
   (λCq fq sq Hq=>ck)
   (λCq fq sq Hq=>(pv 2))) ag rfl)))),?_⟩
  refine⟨_,rfl,l,rfl,⟨[],ba.of hl⟩,λi' m xs σ' H'=>i'=0/\xs=[]/\H'=H,⟨0,rfl,rfl,rfl⟩,?_⟩;rintro i' m xs σ' H' ⟨rfl,rfl,rfl⟩;refine⟨by decide,.inl ⟨⟨[],ba.of hl,Nat.le_refl _⟩,λD hD=>?_⟩⟩;exact⟨D,rfl,ae,q _ (aq hD)⟩
theorem CV {fb:Addr}{NH:vH}(F:xR K "multiplied_out" "multiplied_out" Du f fd)(XG:Ef P w K mg base (aO P w) 3 fb NH ["sums"] Fx)(XH:L2.az K NH ["sums"] [])(XI:mg "bottom_of"=some (.ref fb))(XJ:keepIn K (.ref fb)=true):Ef P w K mg base (aO P w) 4 f fd ["pairs"] FJ:=by
 refine F.okN uG (λvs H Q E h=>?_) (λFV A outer s H vs Q E hr h=>?_)
 ·obtain⟨l,rfl,_⟩:=h;rfl
 ·obtain⟨l,rfl,hl,q⟩:=h;have G5:Fq 3 _:=hr.mono (by decide)
  refine⟨_,(ao (@aM _ _ 1 _ _ _ _ uG.nd rfl (Or.inl rfl) (av XG G5 (by rfl) XI XJ XH .nil af (@aj _ _ _ _ _ (cI (g:=(gD K 2 (bX (aZ 0) (bX (aZ 1) DH)))) (N:=oo) (nl:=2) (js:=[]) (osc:=ak Du) ⟨rfl,rfl,by decide +kernel,by decide +kernel,by decide +kernel,rfl,.nil,by decide +kernel⟩ rfl
   (cE (pv 0))
   (λCq fq sq Hq=>(cf (X:=bQ _ oo _ Cq fq sq Hq) rfl (aC (aA (X:=bQ _ oo _ Cq fq sq Hq) (i:=0) (by show(oo:nO).Nodup;decide +kernel) rfl (Or.inl rfl) (Or.inr rfl)) (aC (aA (X:=bQ _ oo _ Cq fq sq Hq) (i:=1) (by show(oo:nO).Nodup;decide +kernel) rfl (Or.inl rfl) (Or.inr rfl)) bH))))
   (λCq fq sq Hq=>ck)
   (λCq fq sq Hq=>(pv 0))) ag rfl)) rfl (Or.inl rfl))
   (ao (@aM _ _ 2 _ _ _ _ uG.nd rfl (Or.inl rfl) (av XG G5 (by rfl) XI XJ XH .nil af (@aj _ _ _ _ _ (cI (g:=(gD K 2 (bX (aZ 0) (bX (aZ 1) DH)))) (N:=oo) (nl:=2) (js:=[]) (osc:=ak Du) ⟨rfl,rfl,by decide +kernel,by decide +kernel,by decide +kernel,rfl,.nil,by decide +kernel⟩ rfl
    (cE (pv 0))
    (λCq fq sq Hq=>(cf (X:=bQ _ oo _ Cq fq sq Hq) rfl (aC (aA (X:=bQ _ oo _ Cq fq sq Hq) (i:=0) (by show(oo:nO).Nodup;decide +kernel) rfl (Or.inl rfl) (Or.inr rfl)) (aC (aA (X:=bQ _ oo _ Cq fq sq Hq) (i:=1) (by show(oo:nO).Nodup;decide +kernel) rfl (Or.inl rfl) (Or.inr rfl)) bH))))
    (λCq fq sq Hq=>ck)
    (λCq fq sq Hq=>(pv 1))) ag rfl)) rfl (Or.inl rfl))
   (ao (@aM _ _ 3 _ _ _ _ uG.nd rfl (Or.inl rfl) jL rfl (Or.inl rfl))
   (ao (dJ PassesOwn.never rfl (cE (pv 0)) (cf rfl (aC (aA (i:=4) uG.nd rfl (Or.inl rfl)) (aC (aA (i:=5) uG.nd rfl (Or.inl rfl)) bH)))
   (ao kY
   (au kY)))
   (au (ay (@bO _ _ _ _ _ (@aj _ _ _ _ _ (pv 3) (@aj _ _ _ _ _ (@aH _ _ _ _ _ _ _ _ dh (pv 1) (pv 2)) ag rfl) rfl)))))))),?_⟩
  refine⟨_,rfl,l,rfl,⟨[],ba.of hl⟩,λi' m xs σ' H'=>i'=0/\xs=[]/\H'=H,⟨0,rfl,rfl,rfl⟩,?_⟩;rintro i' m xs σ' H' ⟨rfl,rfl,rfl⟩;refine⟨by decide,.inl ⟨⟨[],ba.of hl,Nat.le_refl _⟩,λD hD=>?_⟩⟩;refine⟨D,rfl,ae,λH1 s1=>?_⟩;have s1:=(aq hD).trans s1;clear hD;have GJ:=s1 _ _ hl;refine⟨_,rfl,l,rfl,⟨[],ba.of GJ⟩,λi' m xs σ' H'=>i'=0/\xs=[]/\H'=H1,⟨0,rfl,rfl,rfl⟩,?_⟩;rintro i' m xs σ' H1 ⟨rfl,rfl,rfl⟩;refine⟨by decide,.inl ⟨⟨[],ba.of GJ,Nat.le_refl _⟩,λD hD=>?_⟩⟩;refine⟨D,rfl,ae,λH2 s2=>?_⟩;have s2:=s1.trans ((aq hD).trans s2);clear hD;have Hh:=s2 _ _ hl;intro T hT;have s3:=s2.trans (aq (o:=.dT []) hT);have nT:=none_of s2 hT;have eT:upd H2 T (.dT []) T=some (.dT []):=ae;have Tu:=s3 _ _ hl;generalize upd H2 T (.dT [])=H3 at s3 eT Tu |-;refine⟨_,rfl,l,rfl,⟨[],ba.of Tu⟩,?_⟩;refine⟨λi m σ' H'=>i=0/\H'=H3/\∃o1 o2 o3 o4 o5 o6 o7 o8,σ'=[some (.ref l),some (.int 1),some (.int 1),some (.ref T),o1,o2,o3,o4,o5,o6,o7,o8],⟨0,rfl,rfl,_,_,_,_,_,_,_,_,rfl⟩,?_⟩;rintro i m σ' H' ⟨rfl,rfl,o1,o2,o3,o4,o5,o6,o7,o8,rfl⟩;refine .inl ⟨⟨[],ba.of Tu,Nat.le_refl _⟩,_,rfl,_,rfl,_,rfl,_,_,rfl,rfl,⟨?_,?_⟩,ic,λt ht=>q _ t T (s3.trans (aq ht)) ae (aq ht _ _ eT) nT⟩
  all_goals unfold B;exact Nat.lt_of_lt_of_le (by decide:(1:Int).natAbs<2^5) (Nat.pow_le_pow_right (by decide) (by decide))
theorem CM (F:xR K "without_noughts" "without_noughts" Dl f fd):Ef P w K mg base (aO P w) 1 f fd qx jo:=by
 refine F.okN BF (λvs H Q E h=>?_) (λFV A outer s H vs Q E hr h=>?_)
 ·obtain⟨D,p,rfl,_⟩:=h;rfl
 ·obtain⟨D,p,rfl,hD,q⟩:=h;have F5:=(hr.units:_+64<cLine)
  replace F5:=Nat.lt_of_le_of_lt (Nat.le_add_right _ 64) F5
  refine⟨_,(ao (bc (j9 (pv 1) (λ_=>rfl)) (au (xx (i:=0) F5 (g:=(gD K 2 (bX (aZ 0) (bX (aZ 1) DH)))) (N:=["mask","number","prime"]) (nl:=2) (js:=[1]) (osc:=ak Dl) ⟨rfl,rfl,by decide +kernel,by decide +kernel,by decide +kernel,rfl,(.cons ⟨rfl,by decide +kernel⟩ .nil),by decide +kernel⟩ rfl BF.nd rfl (Or.inl rfl)
   (iy (pv 0))
   (λCq fq sq Hq=>(cf (X:=bQ _ ["mask","number","prime"] _ Cq fq sq Hq) rfl (aC (aA (X:=bQ _ ["mask","number","prime"] _ Cq fq sq Hq) (i:=0) (by show(["mask","number","prime"]:nO).Nodup;decide +kernel) rfl (Or.inl rfl) (Or.inr rfl)) (aC (aA (X:=bQ _ ["mask","number","prime"] _ Cq fq sq Hq) (i:=1) (by show(["mask","number","prime"]:nO).Nodup;decide +kernel) rfl (Or.inl rfl) (Or.inr rfl)) bH))))
   (λCq fq sq Hq=>ck)
   (λCq fq sq Hq=>(pv 0))
   (λCq fq sq Hq=>qZ) (by rfl))) aF)
   (au (ay (oh F5 (g:=(gD K 2 (bX (aZ 0) (bX (aZ 1) DH)))) (N:=["mask","number"]) (nl:=2) (js:=[]) (osc:=ak Dl) ⟨rfl,rfl,by decide +kernel,by decide +kernel,by decide +kernel,rfl,.nil,by decide +kernel⟩ rfl
    (iy (pv 0))
    (λCq fq sq Hq=>(cf (X:=bQ _ ["mask","number"] _ Cq fq sq Hq) rfl (aC (aA (X:=bQ _ ["mask","number"] _ Cq fq sq Hq) (i:=0) (by show(["mask","number"]:nO).Nodup;decide +kernel) rfl (Or.inl rfl) (Or.inr rfl)) (aC (aA (X:=bQ _ ["mask","number"] _ Cq fq sq Hq) (i:=1) (by show(["mask","number"]:nO).Nodup;decide +kernel) rfl (Or.inl rfl) (Or.inr rfl)) bH))))
    (λCq fq sq Hq=>(fA vG))
    (λCq fq sq Hq=>(pv 0))
    (λCq fq sq Hq=>qZ))))),?_⟩
  have last:∀(H0:Hp)(D0:Addr),H0 D0=some (.dT [])->SameBut D H H0->(D0=D\/H D0=none)->Bn (qh (vL (cC 0)) (gD K 2 (bX (aZ 0) (bX (aZ 1) DH))) EC (cC 0) oZ 2 []) {nx:=λ_ H'=>Q .non H',rt:=Q} [some (.ref D0),some (.int p)] H0:=by
   intro H0 D0 h0 sb hd;refine⟨_,rfl,D0,[],rfl,.inr ⟨h0,λo E1 hE=>⟨λj m σ' H'=>j=0/\H'=upd (upd H0 D0 (jm o [])) E1 (.dT []),⟨0,rfl,rfl⟩,?_⟩⟩⟩;rintro j m σ' H' ⟨rfl,rfl⟩
   have nE:D0≠E1:=λz=>by rw[<-z,ae] at hE;cases hE
   refine .inl ⟨⟨Nat.le_refl _,by rw[ai nE];exact ae⟩,q _ E1 (λb u e nb=>?_) ae⟩
   have n0:b≠D0:=by
    rcases hd with z|z
    ·rw[z];exact nb
    ·exact ar e z
   have e1:upd H0 D0 (jm o []) b=some u:=by rw[ai n0];exact sb b u e nb
   rw[ai (ar e1 hE)];exact e1
  refine⟨_,rfl,_,rfl,?_⟩;refine cp (λ_=>?_) λ_=>last H D hD (λb u e _=>e) (.inl rfl);refine⟨_,rfl,D,[],rfl,.inr ⟨hD,λo E1 hE=>⟨λj m σ' H'=>j=0/\H'=upd (upd H D (jm o [])) E1 (.dT []),⟨0,rfl,rfl⟩,?_⟩⟩⟩;rintro j m σ' H' ⟨rfl,rfl⟩
  have nE:D≠E1:=λz=>by rw[<-z,ae] at hE;cases hE
  refine .inl ⟨⟨Nat.le_refl _,by rw[ai nE];exact ae⟩,?_⟩;refine last _ E1 ae (λb u e nb=>?_) (.inr ?_)
  ·have e1:upd H D (jm o []) b=some u:=by rw[ai nb];exact e
   rw[ai (ar e1 hE)];exact e1
  ·rw[ai (Ne.symm nE)] at hE;exact hE
theorem Cj {fc Tv Tw Tx NL XM XN CS CF CN:Addr}{Hr NM NN NO IT NP NQ:vH}(F:xR K "lets_showing" "lets_showing" E9 f fd)(cS:pV K mg CS)(cF:oO K mg CF)(F7:mg "list"=none)(GF:mg "zip"=none)
 (Ly:Ef P w K mg base (aO P w) 2 fc Hr DC (wA CN))(Lz:L2.az K Hr DC [])(LA:mg "checked_degree"=some (.ref fc))(LB:keepIn K (.ref fc)=true)
 (FAM:Ef P w K mg base (aO P w) 2 Tv NM ya (By CS CF))(bAM:L2.az K NM ya [])(mAM:mg "are_multipliers"=some (.ref Tv))(kAM:keepIn K (.ref Tv)=true)
 (FMO:Ef P w K mg base (aO P w) 4 Tw NN ["pairs"] FJ)(bMO:L2.az K NN ["pairs"] [])(mMO:mg "multiplied_out"=some (.ref Tw))(kMO:keepIn K (.ref Tw)=true)
 (FWN:Ef P w K mg base (aO P w) 1 Tx NO qx jo)(bWN:L2.az K NO qx [])(mWN:mg "without_noughts"=some (.ref Tx))(kWN:keepIn K (.ref Tx)=true)
 (Tq:Ef P w K mg base (aO P w) 1 NL IT ["self"] (AN CS CF))(Tr:L2.az K IT ["self"] [])(Ts:L2.Meth K CS "noughts" NL)
 (FYF:Ef P w K mg base (aO P w) 1 XM NP ["self"] (CG CS CF))(bYF:L2.az K NP ["self"] [])(mYF:L2.Meth K CS "field" XM)
 (TB:Ef P w K mg base (aO P w) 1 XN NQ ["self"] (rG CF))(TC:L2.az K NQ ["self"] [])(TF:L2.Meth K CF "prime" XN):Ef P w K mg base (aO P w) 5 f fd ya (Cg CS CF CN):=by
 refine F.okE zN (λvs H Q E h=>?_) (λFV A outer s H vs Q E hr h=>?_)
 ·obtain⟨sy,fl,p,n,as,bs,x,y,T,rfl,_⟩:=h;rfl
 ·obtain⟨sy,fl,p,n,as,bs,x,y,T,rfl,S,th,hy,q,e⟩:=h;have Gb:Fq 1 _:=hr.mono (by decide);have Gz:Fq 2 _:=hr.mono (by decide);have Ii:Fq 4 _:=hr.mono (by decide)
  refine⟨_,(ao (fG (av Ly Gz (by rfl) LA LB Lz .nil cD (@aj _ _ _ _ _ (pv 1) ag rfl)))
   (ao (bc (bR (b8 (av FAM Gz (by rfl) mAM kAM bAM .nil af (@aj _ _ _ _ _ (pv 0) (@aj _ _ _ _ _ (pv 1) (@aj _ _ _ _ _ (pv 2) ag rfl) rfl) rfl)))) (au (ay dG)) aF)
   (ao (i8 (av FMO Ii (by rfl) mMO kMO bMO .nil af (@aj _ _ _ _ _ (nQ (K:=K) rfl (pv 2) (dM (pv 0) cS.cl Ts Tq Gb Tr .nil af) rfl (by rfl) F7 (by rfl) GF) ag rfl)) (cf rfl (aC (aA (i:=3) zN.nd rfl (Or.inl rfl)) (aC (aA (i:=4) zN.nd rfl (Or.inl rfl)) bH))))
   (au (ay (@dC _ _ _ _ _ _ _ _ (Ai Gb) (av FWN Gb (by rfl) mWN kWN bWN .nil af (@aj _ _ _ _ _ (pv 3) (@aj _ _ _ _ _ (dM (dM (pv 0) cS.cl mYF FYF Gb bYF .nil af) cF.cl TF TB Gb TC .nil af) ag rfl) rfl)) (Few (abo ah (pv 4) TIp) rfl rfl (by simp) (by decide)) (aK _))))))),?_⟩
  refine⟨_,rfl,x,T,rfl,th,?_⟩
  rcases fI th with⟨i,rfl,i0,i1,g⟩|⟨no,g⟩
  ·refine .inl ⟨i,rfl,i0,i1,?_⟩;refine⟨_,rfl,_,rfl,_,rfl,sy,fl,p,n,as,bs,i,y,rfl,S,hy,λH' sH=>⟨_,rfl,aW (q g _ sH)⟩,λa ey ea eas H' sH=>⟨_,rfl,bD ?_⟩⟩;subst ey;subst eas;have S1:=S.same sH;obtain⟨dx,F6,A1,B1,h1,h2,h3,h4⟩:=S1.ex;refine⟨_,rfl,_,rfl,sy,dx,_,rfl,h1,rfl,sy,fl,p,n,[],bs,rfl,S1,λl hl=>?_⟩;have s1:=sH.trans (aq (o:=.lst (([]:List Addr).map V.ref)) hl);have el:upd H' l (.lst (([]:List Addr).map V.ref)) l=some (.lst []):=ae;generalize upd H' l (.lst (([]:List Addr).map V.ref))=H1 at s1 el |-;refine⟨a,l,rfl,ba.of (s1 _ _ ea),ba.of el,λD hD=>?_⟩;have s2:=s1.trans (aq (o:=.lst []) hD);have eD:upd H1 D (.lst []) D=some (.lst []):=ae;generalize upd H1 D (.lst [])=H2 at s2 eD |-;refine⟨D,rfl,eD,λH3 t Dt s3 et eDt nDt=>?_⟩;have TH:=none_of s2 nDt;have s3:=s2.trans s3;refine⟨t,_,rfl,bx.of et,rfl,_,_,rfl,_,_,rfl,rfl,?_⟩;have S3:=S.same s3;obtain⟨dx,F6,A1,B1,h1,h2,h3,h4⟩:=S3.ex;refine⟨_,rfl,_,rfl,sy,dx,_,rfl,h1,rfl,sy,fl,p,n,[],bs,rfl,S3,fl,F6,_,rfl,h2,rfl,fl,F6,p,rfl,h2,Dt,p,rfl,eDt,λH4 E4 IU e4=>?_⟩;have s4:ax H H4:=λb u e=>IU _ _ (s3 _ _ e) (ar e TH);intro pd RG;have s5:=s4.trans (aq (o:=.dK []) RG);refine⟨_,rfl,ae,[(.inl 0,.int 1)],rfl,by decide,E4,pd,_,rfl,rfl,Rd.of ?_,Rd.of ae,(λz=>absurd (congrArg List.length z) (by decide)),q g _ λb u e=>?_⟩
   ·rw[ai (ar e4 RG),ai (ar e4 RG)];exact e4
   ·rw[ai (ar (s4 _ _ e) RG)];exact s5 _ _ e
  ·exact .inr ⟨no,e g⟩
noncomputable abbrev sk:Stmt:=(aJ 85)
theorem v8:yd pk pk (ak sk):=c9 (by decide +kernel)
theorem uy (F:xR K "_law_whole" "_law_whole" sk f fd)(n:uf mg):Ef P w K mg base (aO P w) 1 f fd pk t6:=by
 refine F.okN v8 (λvs H Q E h=>?_) (λFV A outer s H vs Q E hr h=>?_)
 ·obtain⟨x,T,rfl,_⟩:=h;rfl
 ·obtain⟨x,T,rfl,th,q⟩:=h
  refine⟨_,au (ay (dB (aB aN (by rfl) n.isi (by rfl) (aS (pv 0) (aS (cH (by rfl) n.int (by rfl) (show aD (.ty "int") (.type "int") from rfl)) ag)))
   (eF (vA (aB aN (by rfl) n.isi (by rfl) (aS (pv 0) (aS (cH (by rfl) n.bool (by rfl) (show aD (.ty "bool") (.type "bool") from rfl)) ag))))))),?_⟩
  refine⟨_,rfl,x,.ty "int",_,_,_,rfl,rfl,th.ty,th.isInt,_,rfl,?_⟩;refine cp (λhi=>?_) (λhi=>?_)
  ·refine⟨_,rfl,x,.ty "bool",_,_,_,rfl,rfl,th.ty,th.isBool hi,_,rfl,?_⟩;simpa using q
  ·have e:dH x=false:=by
    cases th <;> first|rfl|exact absurd rfl hi
   rw[e] at q;exact q
end K26
namespace L2
open PySem PySem.Spec PyProof.Rows
section
variable {prog:zO}{w:World}{A:Around}{E:oP}{s:Fp}{env:Env}
theorem kR {k v:Expr}{pos:Pos}{Q:oP}
 (h:wpAny (model prog w) A (eval k env) (λkv s₁=>wpAny (model prog w) A (eval v env) (λvv s₂=>wpAny (model prog w) A (dictSet s.heap.objs.size kv vv) (λ_ s₃=>Q (.ref s.heap.objs.size) s₃) E s₂) E s₁) E
  {s with heap:=s.heap.push {cls:=.type "dict",data:=.dict #[]} }):
 wpAny (model prog w) A (eval (.Dict [some k] [v] pos) env) Q E s:=by
 rw[arm_eval_Dict,zip_pairTrees [some k] [v] env pos rfl rfl,dictDisplay_pairs _ (by intro z;cases z) (by show 1<17;decide)];refine wpAny_bind (wpAny_standAt (wpAny_bind ?_));unfold subDict;refine wpAny_bind (wpAny_alloc ?_);refine wpAny_bind (wpAny_holding ?_);rw[if_pos (by show 1<=15;decide)];refine wpAny_bind (pairTrees_cons_walk (wpAny_mono h (λkv s₁ h₁=>wpAny_mono h₁ (λvv s₂ h₂=>pairTrees_nil_walk ?_) λ_ _ e=>e) λ_ _ e=>e));refine wpAny_holding ?_;rw[List.forIn_cons];refine wpAny_bind (wpAny_bind (wpAny_bind (wpAny_mono h₂ (λ_ s₃ h₃=>wpAny_pure ?_) λ_ _ e=>e)));dsimp only;rw[List.forIn_nil];exact wpAny_pure (wpAny_pure (wpAny_pure (wpAny_pure h₃)))
end
section
variable {X:Cx}{k v:Expr}{tk tv:TE}{pos:Pos}
noncomputable def AV (tk tv:TE):TE:=λσ H Q=>∀p,H p=none->tk σ (upd H p (.dT [])) λx H1=>tv σ H1 λy H2=>∃b ks,x=.ref b/\H2 b=some (.tup (ks.map kV))/\H2 p=some (.dT [])/\Q (.ref p) (upd H2 p (.dT [(ks,y)]))
theorem vb (hu:X.A.units+1<cLine)(hk:PE X k tk)(hv:PE X v tv):PE X (.Dict [some k] [v] pos) (AV tk tv):=by
 intro pins s σ H Q I q;have hn:=I.hok.fresh (Nat.le_refl s.heap.objs.size);have I1:=I.laid (a:=s.heap.objs.size) (o:=.dT []) (h':=s.heap.push {cls:=.type "dict",data:=.dict #[]}) (t':=s.toks) (λ_ _ q=>Heap.get?_push_of_some _ q) (Nat.le_refl _) (ky s.heap I.big);refine kR (bA (hk pins _ σ _ _ I1 (q _ hn)) λkv s1 ⟨x,H1,I2,rx,q1⟩=>bA (hv pins s1 σ H1 _ I2 q1) λvv s2 z'=>?_);obtain⟨y,H2,I3,ry,b,ks,ex,eb,e,q2⟩:=z';subst ex
 cases(show kv=Value.ref b from rx)
 obtain⟨z,hd,xs,rel,dd⟩:=we I3.hok e
 have hz:xs.length<=sizeLine:=by rw[<-Paired.length rel];exact z
 refine wpAny_dictSet_heap (knd:=tupleKind (bz X.prog X.w)) (hsz:=hz) (show X.A.units<cLine by omega) (gP I3.hok eb) dd λh' IB hs=>⟨.ref s.heap.objs.size,_,?_,rfl,q2⟩;obtain⟨qq,es,ep,hq,h2,h3,h4,_,h5⟩:=IB
 have hl:(dm [] ks y).length<=sizeLine:=by show 1<=sizeLine;decide
 refine iq I3 (by rw[e];exact True.intro) hs ⟨qq,hq⟩ ⟨hl,hd,_,(rel.put ks eb ry).keeps λc ys ec=>?_,qq,es,ep,hq,h2,h3,h4,h5⟩;rw[ai (kQ ec e (λz=>nomatch z))];exact ec
end
open PySem.W
noncomputable def qE (r:Addr)(H H':Hp):Prop:=∀b o,H b=some o->b≠r->H' b=some o
variable {H:Hp}
section
variable {cs:List (Addr×Obj)}{H1 H2:Hp}
theorem yF (hc:∀c o,cs.lookup c=some o->H1 c=none):eZ cs (dD cs H1)=H1:=by
 funext b
 cases q:cs.lookup b with
 |some o=>rw[eo q,hc b o q]
 |none=>rw[bY q,bw q]
theorem nM (hc:∀c o,cs.lookup c=some o->H1 c=none){b:Addr}{v:HO}(e:H1 b=some v):cs.lookup b=none:=by
 cases q:cs.lookup b with
 |none=>rfl
 |some o=>rw[hc b o q] at e;cases e
theorem vm (hc:∀c o,cs.lookup c=some o->H1 c=none)(S:ax (dD cs H1) H2):ax H1 (eZ cs H2):=λb v e=>by
 rw[bY (nM hc e)];exact S b v (by rw[bw (nM hc e)];exact e)
theorem j4 (S:ax H1 H2):ax (dD cs H1) (dD cs H2):=λb v e=>by
 cases q:cs.lookup b with
 |some o =>
  rw[jv q] at e |-;exact e
 |none =>
  rw[bw q] at e |-;exact S b v e
theorem wL :fH cs (dD cs H):=λb v e=>jv e
end
theorem jr {pos:Pos}{a b:Int}{c:Value}(l:xF)(h:TriplesOk l)(hn:¬(a=pos.line/\b=pos.col)):codeAmong pos (l++[rawInt a,rawInt b,c])=codeAmong pos l:=by
 fun_induction TriplesOk l with
 |case1 =>
  show(if(a==(pos.line:Int)&&b==(pos.col:Int))=true then some c else codeAmong pos [])=codeAmong pos [];rw[if_neg (by simpa using hn)]
 |case2 a' t b' u x rest ih =>
  simp only[List.cons_append,codeAmong];rw[ih h]
 |case3=>exact h.elim
noncomputable def kj (ls:List Pos)(q:Str)(Pt:Addr)(H:Hp):Prop:=∃ps,H Pt=some (.tbl ps)/\TriplesOk ps.toList/\∀pos∈ls,codeAmong pos ps.toList=none\/∃c' oc,codeAmong pos ps.toList=some (.ref c')/\H c'=some (dw c' oc)/\eM q oc
variable {ls:List Pos}{Pt:Addr}
theorem kj.same {q:Str}{H':Hp}(h:kj ls q Pt H)(S:ax H H'):kj ls q Pt H':=by
 obtain⟨ps,h1,h2,h3⟩:=h;refine⟨ps,S _ _ h1,h2,λpos hp=>?_⟩
 rcases h3 pos hp with z|⟨c',oc,a,b,c⟩
 ·exact .inl z
 ·exact .inr ⟨c',oc,a,S _ _ b,c⟩
theorem kj.but {q:Str}{r:Addr}{H':Hp}{l:List V}(h:kj ls q Pt H)(hr:H r=some (.lst l))(S:qE r H H'):kj ls q Pt H':=by
 have n1:∀b ps,H b=some (.tbl ps)->b≠r:=λb ps e z=>by rw[z,hr] at e;cases e
 have n2:∀b oc,H b=some (dw b oc)->b≠r:=λb oc e z=>by rw[z,hr] at e;cases e
 obtain⟨ps,h1,h2,h3⟩:=h;refine⟨ps,S _ _ h1 (n1 _ _ h1),h2,λpos hp=>?_⟩
 rcases h3 pos hp with z|⟨c',oc,a,b,c⟩
 ·exact .inl z
 ·exact .inr ⟨c',oc,a,S _ _ b (n2 _ _ b),c⟩
theorem zU {X:Cx}{JT:Arguments}{body:Expr}{sc:Scope}{pos:Pos}{lq:Str}{σ:St}{Q:VK}(JB:pos∈ls)(hd:∀p∈ls,∀p'∈ls,((p.line:Int)=p'.line/\(p.col:Int)=p'.col)->p=p')(hq:X.env.qual++"<lambda>"=lq)(tb:kj ls lq Pt H)
 (q:∀(H7:Hp)(f c':Addr)(oc:Obj)(ctv:Value),H7 f=some (dw f (f9 X JT body sc c' ctv))->H7 c'=some (dw c' oc)->eM lq oc->qE Pt H H7->kj ls lq Pt H7->Q (.ref f) H7):BL X JT body sc pos Pt σ H Q:=by
 obtain⟨ps,hP,hT,Ig⟩:=id tb;refine⟨ps,hP,hT,?_⟩
 rcases Ig pos JB with hn|⟨c',oc,hm,Gd,Ht⟩
 ·refine .inl ⟨hn,λc' f oc ctv Gd hf Gw Ht=>?_⟩;rw[hq] at Ht
  have kp:∀b u,H b=some u->b≠Pt->(upd (upd (upd H Pt (.tbl (ps++#[rawInt pos.line,rawInt pos.col,.ref c']))) c' (dw c' oc)) f (dw f (f9 X JT body sc c' ctv))) b=some u:=λb u e n=>by
   rw[ai (ar e hf),ai (ar e Gd),ai n];exact e
  refine q _ f c' oc ctv ae (by rw[ai Gw,ae]) Ht kp ⟨_,by rw[ai (ar hP hf),ai (ar hP Gd),ae],by rw[Array.toList_append];exact TriplesOk_snoc _ _ _ _ hT,λpos' Kw=>?_⟩;rw[Array.toList_append]
  by_cases e:pos'=pos
  ·subst e;exact .inr ⟨c',oc,codeAmong_snoc _ hT hn,by rw[ai Gw,ae],Ht⟩
  ·have ne:¬((pos.line:Int)=pos'.line/\(pos.col:Int)=pos'.col):=λz=>e (hd _ JB _ Kw z).symm;rw[show(#[rawInt pos.line,rawInt pos.col,Value.ref c']:va).toList=[rawInt pos.line,rawInt pos.col,Value.ref c'] from rfl,jr _ hT ne]
   rcases Ig pos' Kw with z|⟨c2,oc2,a,b,c⟩
   ·exact .inl z
   ·exact .inr ⟨c2,oc2,a,kp _ _ b (λz=>by rw[z,hP] at b;cases b),c⟩
 ·refine .inr ⟨c',oc,hm,Gd,by rw[hq];exact Ht,λf ctv hf=>?_⟩
  have S:ax H (upd H f (dw f (f9 X JT body sc c' ctv))):=λb u e=>by rw[ai (ar e hf)];exact e
  exact q _ f c' oc ctv ae (S _ _ Gd) Ht (λb u e _=>S b u e) (tb.same S)
section
variable {P:zO}{w:World}{K:Frag}{mg:yN}{base:Heap}{qual name y1 y2:Str}{scope:Scope}{f c' c1 c2:Addr}{params:Arguments}{body:Expr}{pm ctv:Value}{k:Nat}{v1 v2:V}{o1 o2 oc:Obj}
noncomputable def pB (φ:Hp->VK->XK->Prop):Prop:=∀(H:Hp)(Q Q':VK)(E E':XK),(∀v H',Q v H'->Q' v H')->(∀cls d H',E cls d H'->E' cls d H')->φ H Q E->φ H Q' E'
theorem vW {fo:Obj}{cs:List (Addr×Obj)}{φ0:Hp->VK->XK->Prop}(m:pB φ0):pB (JG f c' fo oc cs φ0):=by
 intro H Q Q' E E' hQ hE h;obtain⟨g1,g2,g3,g4⟩:=h;exact⟨g1,g2,g3,m _ _ _ _ _ (λv H' q=>hQ _ _ q) (λc d H' q=>hE _ _ _ q) g4⟩
end
theorem qF {α β:Type} [BEq α] [LawfulBEq α]{a:α}{b:β}:∀{l:List (α×β)},(l.map (·.1)).Nodup->(a,b)∈l->l.lookup a=some b
 |[],_,m=>nomatch m
 |(x,y):: l,nd,m=>by
  rw[List.map_cons] at nd;obtain⟨n1,n2⟩:=List.nodup_cons.mp nd;rw[List.lookup_cons]
  rcases List.mem_cons.mp m with z|z
  ·injection z with z1 z2
   subst z1;subst z2;simp
  ·have ne:(a==x)=false:=beq_eq_false_iff_ne.mpr λe=>n1 (List.mem_map.mpr ⟨(a,b),z,e⟩);rw[ne];exact qF n2 z
theorem nK {α β:Type}{as:List α}{bs:List β}{a:α}{b:β}:(a,b)∈as.zip bs ↔ ∃i:Nat,as[i]?=some a/\bs[i]?=some b:=by
 rw[List.mem_iff_getElem?];constructor
 ·rintro⟨i,e⟩;exact⟨i,List.getElem?_zip_eq_some.mp e⟩
 ·rintro⟨i,e⟩;exact⟨i,List.getElem?_zip_eq_some.mpr e⟩
theorem A0 {α β:Type} [BEq α] [LawfulBEq α]{as:List α}{bs:List β}{a:α}{b:β}{i:Nat}(nd:as.Nodup)(l:as.length=bs.length)(ha:as[i]?=some a)(hb:bs[i]?=some b):(as.zip bs).lookup a=some b :=
 qF (by rw[List.map_fst_zip (by omega)];exact nd) (nK.mpr ⟨i,ha,hb⟩)
theorem mQ {α:Type}{l:List α}{i n:Nat}(h:i<n)(e:l.length=n):∃a,l[i]?=some a:=⟨l[i]'(by omega),by simp[e,h]⟩
theorem ja {α:Type}{l:List α}{i:Nat}{a:α}(h:l[i]?=some a):i<l.length:=(List.getElem?_eq_some_iff.mp h).1
section
variable {P:zO}{w:World}{K:Frag}{mg:yN}{base:Heap}{qual name:Str}{scope:Scope}{f c':Addr}{params:Arguments}{body:Expr}{pm ctv:Value}{k:Nat}{oc:Obj}{ys:nO}{cs:List Addr}{os:List Obj}{vs:List V}
theorem p7 {φ0:Hp->VK->XK->Prop}(GZ:bindArgs (kla_fn name qual params body scope (ys.zip cs).reverse pm (.ref c') ctv) ⟨[],[]⟩=pure [])(hk:scope.kind=.function)(Lc:scope.isCoroutine=false)(IG:scope.isGenerator=false)(Gm:∀x∈scope.names,x.2≠.cell)
 (GC:∀q∈scope.names,q.2=.free->q.1∈ys)(hfs:∀y∈ys,scope.names.lookup y=some .free)(ny:ys.Nodup)(nc:cs.Nodup)(lc:ys.length=cs.length)(ro:Paired qw vs os)(lv:vs.length=ys.length)(Ht:eM qual oc)
 (Gi:∀(A:Around)(outer:List Env)(s:Fp)(H:Hp)(Q:VK)(E:XK),Fq k (A.deeper (envX qual scope s.heap.objs.size f (.ref c') (ys.zip cs).reverse))->φ0 H Q E->∃t,PE (Bu P w K mg base ys qual scope f (.ref c') (ys.zip cs).reverse A outer s H E) body t/\t (vs.map some) H Q):
 rE P w K mg base (k+1) f (JG f c' (kla_obj name qual params body scope (ys.zip cs).reverse pm c' ctv) oc (cs.zip os) φ0):=by
 have lo:vs.length=os.length:=Paired.length ro;have at_:∀{y:Str}{d:Addr},(ys.zip cs).reverse.lookup y=some d->∃i,ys[i]?=some y/\cs[i]?=some d:=λ{y d} e=>nK.mp (List.mem_reverse.mp (PySem.mem_of_lookup e))
 have lk:∀{i:Nat}{y:Str}{d:Addr},ys[i]?=some y->cs[i]?=some d->(ys.zip cs).reverse.lookup y=some d:=λ{i y d} h1 h2 =>
  qF (by rw[List.map_reverse,List.map_fst_zip (by omega)];exact(List.reverse_perm ys).nodup_iff.mpr ny) (List.mem_reverse.mpr (nK.mpr ⟨i,h1,h2⟩))
 have XO:∀{i:Nat}{d:Addr},cs[i]?=some d->∃(o:Obj)(v:V)(u:Value),os[i]?=some o/\vs[i]?=some v/\(cs.zip os).lookup d=some o/\o.data=.cell (some u)/\aD v u:=λ{i d} h=>by
  have hi:=ja h;obtain⟨o,ho⟩:=mQ (l:=os) (i:=i) hi (by omega);obtain⟨v,hv⟩:=mQ (l:=vs) (i:=i) hi (by omega)
  have r:qw v o:=by
   have:∀{a:List V}{b:List Obj}{i:Nat},Paired qw a b->a[i]?=some v->b[i]?=some o->qw v o:=by
    intro a b i p
    induction p generalizing i with
    |nil=>intro h;simp at h
    |cons r _ ih =>
     intro h1 h2
     cases i with
     |zero =>
      simp at h1 h2;subst h1;subst h2;exact r
     |succ i=>exact ih (by simpa using h1) (by simpa using h2)
   exact this ro hv ho
  obtain⟨u,ru,hu⟩:=r;exact⟨o,v,u,ho,hv,A0 nc (by omega) h ho,hu,ru⟩
 refine t7 (N:=ys) (vs:=vs) (k:=k) GZ hk Lc IG Gm (λy hy=>?_) (λy z d e1 e2=>?_) Ht (λy d e=>?_) (λi y v e1 e2=>?_) lv Gi
 ·obtain⟨i,hi⟩:=List.mem_iff_getElem?.mp (GC _ (PySem.mem_of_lookup hy) rfl);obtain⟨c,hc⟩:=mQ (l:=cs) (ja hi) lc.symm;exact⟨c,lk hi hc⟩
 ·obtain⟨i,a1,a2⟩:=at_ e1;obtain⟨j,b1,b2⟩:=at_ e2
  have ij:i=j:=by
   obtain⟨h1,h2⟩:=List.getElem?_eq_some_iff.mp a2;obtain⟨h3,h4⟩:=List.getElem?_eq_some_iff.mp b2;exact(List.getElem_inj nc).mp (h2.trans h4.symm)
  subst ij;exact Option.some.inj (a1.symm.trans b1)
 ·obtain⟨i,a1,a2⟩:=at_ e;obtain⟨o,v,u,_,_,h3,h4,_⟩:=XO a2;exact⟨o,_,h3,h4⟩
 ·obtain⟨c,hc⟩:=mQ (l:=cs) (ja e1) lc.symm;obtain⟨o,v',u,h1,h2,h3,h4,h5⟩:=XO hc;have ev:v'=v:=Option.some.inj (h2.symm.trans e2);subst ev;exact⟨hfs y (List.mem_of_getElem? e1),c,o,u,lk e1 hc,h3,h4,h5⟩
theorem yO {fo:Obj}{φ0:Hp->VK->XK->Prop}{H7:Hp}{Q:VK}{E:XK}(hf:H7 f=some (dw f fo))(Gd:H7 c'=some (dw c' oc))(z:∀c∈cs,H7 c=none)
 (h:φ0 H7 (λv H'=>Q v (dD (cs.zip os) H')) λcls d H'=>E cls d (dD (cs.zip os) H')):JG f c' fo oc (cs.zip os) φ0 (dD (cs.zip os) H7) Q E:=by
 have hc:∀c o,(cs.zip os).lookup c=some o->H7 c=none:=λc o e=>z c (List.of_mem_zip (dQ e)).1;refine⟨by rw[bw (nM hc hf)];exact hf,by rw[bw (nM hc Gd)];exact Gd,wL,?_⟩;rw[yF hc];exact h
theorem A6 {H7 H8:Hp}(z:∀c∈cs,H7 c=none)(S:ax (dD (cs.zip os) H7) H8):fH (cs.zip os) H8/\ax H7 (eZ (cs.zip os) H8):=by
 have hc:∀c o,(cs.zip os).lookup c=some o->H7 c=none:=λc o e=>z c (List.of_mem_zip (dQ e)).1;exact⟨λb v e=>S b _ (jv e),vm hc S⟩
end
end L2
namespace K26
open PySem L2 PySem.W Nm Srt
noncomputable abbrev rY:Stmt:=(aJ 89)
noncomputable abbrev ER:Stmt:=(aJ 90)
noncomputable abbrev EZ:Stmt:=(aJ 91)
theorem jX:yd ["_law_call","_law_kept","e","_law_kinds"] ["_law_call"] (ak rY):=c9 (by decide +kernel)
theorem Ej:yd qe qe (ak ER):=c9 (by decide +kernel)
theorem DU:yd BH BH (ak EZ):=c9 (by decide +kernel)
structure Refs (K:Frag)(mg:yN)(FE ND NF TM:Addr):Prop where
 mFE:mg "FalseError"=some (.ref FE)
 mND:mg "NoDegree"=some (.ref ND)
 mNF:mg "NoFilling"=some (.ref NF)
 mTM:mg "TooMany"=some (.ref TM)
 mVE:mg "ValueError"=none
 kND:Ax K ND
 kNF:Ax K NF
 xND:exmOne K (.ref ND) (.ref FE)=some true
 xNF:exmOne K (.ref NF) (.ref FE)=some true
 b1:kitOne K (.ref ND) (.ref ND)=some true
 b2:kitOne K (.ref ND) (.ref NF)=some false
 b3:kitOne K (.ref ND) (.ref TM)=some false
 b4:kitOne K (.ref ND) (.type "ValueError")=some true
 c1:kitOne K (.ref NF) (.ref ND)=some false
 c2:kitOne K (.ref NF) (.ref NF)=some true
 c3:kitOne K (.ref NF) (.ref TM)=some false
 c4:kitOne K (.ref NF) (.type "ValueError")=some true
noncomputable def pY (P:zO)(w:World)(K:Frag)(mg:yN)(base:Heap)(kk:Nat)(ND NF:Addr):Sp:=λvs H Q _=>∃(f:Addr)(φ:Hp->VK->XK->Prop),vs=[.ref f]/\rE P w K mg base kk f φ/\pB φ /\
 φ H (λ_ H'=>Q (.str "told") H') λcls d H'=>d=none/\((cls=.ref ND/\∀Iw,ax H' Iw->Q (.str "degree") Iw)\/(cls=.ref NF/\∀Iw,ax H' Iw->Q (.str "filling") Iw))
noncomputable def yT (CS CF ND NF:Addr):Sp:=λvs H Q E=>∃(way:Int)(sy fl:Addr)(p n:Int)(as bs:List Addr)(x y:V)(T:String),vs=[.int way,.ref sy,x,y]/\0<=way/\way<=3/\A4 CS CF H sy fl p n as bs/\0<=n/\n<=3/\Th H x T/\Tg H y /\
 (eC x=true->way≠3->∀v H',ax H H'->Q v H')/\(eC x=true->way=3->∀H',ax H H'->E (.ref NF) none H')/\(eC x=false->∀H',ax H H'->E (.ref ND) none H')
noncomputable def qm (way:Int)(x:V):Str:=if eC x=true then(if way=3 then "filling" else "told") else "degree"
noncomputable def uJ:Sp:=λvs H Q _=>∃(way:Int)(x:V)(T:String),vs=[.int way,x]/\0<=way/\way<=3/\Th H x T/\∀H',ax H H'->Q (.str (qm way x)) H'
variable {P:zO}{w:World}{K:PySem.W.Frag}{mg:yN}{base:Heap}
variable {f:Addr}{fd:vH}
theorem xW {FE ND NF TM:Addr}{kk:Nat}(F:xR K "_law_kind" "_law_kind" rY f fd)(R:Refs K mg FE ND NF TM)(FR:mg "isinstance"=none):Ef P w K mg base (aO P w) (kk+1) f fd ["_law_call"] (pY P w K mg base kk ND NF):=by
 refine F.okN jX (λvs H Q E h=>?_) (λFV A outer s H vs Q E hr h=>?_)
 ·obtain⟨f,φ,rfl,_⟩:=h;rfl
 ·obtain⟨g,φ,rfl,C,mono,q⟩:=h
  refine⟨_,ao (aM (i:=1) jX.nd rfl (Or.inl rfl) fV)
   (ao (AZ (i:=2) rfl rfl jX.nd rfl rfl (by rfl) R.mFE (λpins E'=>au (fG (show PE (Cx.tr (fk (aO P w) P w K mg base ["_law_call","_law_kept","e","_law_kinds"] "_law_kind" (ak rY) f FV A outer s H E).nox pins E') _ (vF P w K mg base kk 0 E') from vC (X:=(Cx.tr (fk (aO P w) P w K mg base ["_law_call","_law_kept","e","_law_kinds"] "_law_kind" (ak rY) f FV A outer s H E).nox pins E')) (E:=E') (i:=0) hr pR (pv 0)))) (λa=>au (aM (i:=1) jX.nd rfl (Or.inl rfl) (pv 2))))
   (ao (bc (vB (aal (pv 1))) (au (ay cK)) aF)
   (ao (aM (i:=3) jX.nd rfl (Or.inl rfl) (cy
    (aS (aB aN (by rfl) FR (by rfl) (aS (pv 1) (aS (cz (by rfl) R.mND (show aD (.ref ND) (.ref ND) from rfl)) ag)))
    (aS (aB aN (by rfl) FR (by rfl) (aS (pv 1) (aS (cz (by rfl) R.mNF (show aD (.ref NF) (.ref NF) from rfl)) ag)))
    (aS (aB aN (by rfl) FR (by rfl) (aS (pv 1) (aS (cz (by rfl) R.mTM (show aD (.ref TM) (.ref TM) from rfl)) ag))) ag)))))
   (ao (bc (PW.pt (eX (aI gI (rF PySem.F.plainAttrs_list PySem.F.slot_list_count PySem.F.type_list_count vX (pv 3) (aS dG ag)) ah (aK _))
    (dA (bR (b8 (aB aN (by rfl) FR (by rfl) (aS (pv 1) (aS (cH (by rfl) R.mVE (by rfl) (show aD (.ty "ValueError") (.type "ValueError") from rfl)) ag)))))))) (au (ay cK)) aF)
   (au (ay (bo bV (cy (aS cK (aS cK (aS cK ag)))) (rF PySem.F.plainAttrs_list PySem.F.slot_list_index PySem.F.type_list_index vQ (pv 3) (aS dG ag)) (λ_ _=>rfl)))))))),?_⟩
  refine⟨g,φ,rfl,C,mono H _ _ _ _ (λv H' z=>?_) (λcls d H' z=>?_) q⟩
  ·-- fP
   exact⟨_,rfl,_,rfl,aW z⟩
  ·obtain⟨rfl,z⟩:=z
   rcases z with⟨rfl,z⟩|⟨rfl,z⟩
   ·refine⟨R.xND,λa ha=>?_⟩;refine⟨_,rfl,?_⟩;refine⟨_,rfl,_,rfl,bD ?_⟩;have ea:(upd H' a (lD a (.ref ND))) a=some (lD a (.ref ND)):=ae;have ty:∀{H2:Hp},ax (upd H' a (lD a (.ref ND))) H2->DM K H2 (.ref a) (.ref ND):=λS=>.exc (S _ _ ea) R.kND;refine⟨_,rfl,.ref a,.ref ND,_,_,_,rfl,rfl,ty (ax.refl _),R.b1,_,rfl,.ref a,.ref NF,_,_,_,rfl,rfl,ty (ax.refl _),R.b2,_,rfl,.ref a,.ref TM,_,_,_,rfl,rfl,ty (ax.refl _),R.b3,by decide,λp hp=>?_⟩;have NR:=aq (o:=.lst [V.bl true,V.bl false,V.bl false]) hp;refine⟨_,rfl,.inl ⟨rfl,_,ba.of ae⟩,p,_,_,rfl,rfl,ba.of ae,by decide,rfl,rfl,_,rfl,bD ?_⟩;refine⟨_,rfl,.ref a,.ty "ValueError",_,_,_,rfl,rfl,ty NR,R.b4,_,rfl,bD ?_⟩;refine⟨by decide,λr Ik=>?_⟩
    have GV:p≠r:=λe=>by rw[<-e,ae] at Ik;cases Ik
    refine⟨_,rfl,.inl ⟨rfl,_,ba.of (by rw[ai GV];exact ae)⟩,p,_,_,0,rfl,rfl,ba.of (by rw[ai GV];exact ae),by decide,rfl,⟨_,rfl,rfl⟩,(λi z h e=>absurd h (Nat.not_lt_zero _)),by decide,?_⟩;refine⟨r,_,_,_,rfl,rfl,ba.of ae,rfl,z _ ?_⟩;exact((aq ha).trans NR).trans (aq Ik)
   ·refine⟨R.xNF,λa ha=>?_⟩;refine⟨_,rfl,?_⟩;refine⟨_,rfl,_,rfl,bD ?_⟩;have ea:(upd H' a (lD a (.ref NF))) a=some (lD a (.ref NF)):=ae;have ty:∀{H2:Hp},ax (upd H' a (lD a (.ref NF))) H2->DM K H2 (.ref a) (.ref NF):=λS=>.exc (S _ _ ea) R.kNF;refine⟨_,rfl,.ref a,.ref ND,_,_,_,rfl,rfl,ty (ax.refl _),R.c1,_,rfl,.ref a,.ref NF,_,_,_,rfl,rfl,ty (ax.refl _),R.c2,_,rfl,.ref a,.ref TM,_,_,_,rfl,rfl,ty (ax.refl _),R.c3,by decide,λp hp=>?_⟩;have NR:=aq (o:=.lst [V.bl false,V.bl true,V.bl false]) hp;refine⟨_,rfl,.inl ⟨rfl,_,ba.of ae⟩,p,_,_,rfl,rfl,ba.of ae,by decide,rfl,rfl,_,rfl,bD ?_⟩;refine⟨_,rfl,.ref a,.ty "ValueError",_,_,_,rfl,rfl,ty NR,R.c4,_,rfl,bD ?_⟩;refine⟨by decide,λr Ik=>?_⟩
    have GV:p≠r:=λe=>by rw[<-e,ae] at Ik;cases Ik
    refine⟨_,rfl,.inl ⟨rfl,_,ba.of (by rw[ai GV];exact ae)⟩,p,_,_,1,rfl,rfl,ba.of (by rw[ai GV];exact ae),by decide,rfl,⟨_,rfl,rfl⟩,(λi z h e=>?_),by decide,?_⟩
    ·cases(by omega:i=0)
     cases e
     rfl
    refine⟨r,_,_,_,rfl,rfl,ba.of ae,rfl,z _ ?_⟩;exact((aq ha).trans NR).trans (aq Ik)
theorem Cn {fw:Addr}{G4:vH}(F:xR K "_law_due" "_law_due" EZ f fd)(FW:Ef P w K mg base (aO P w) 1 fw G4 pk t6)(bW:L2.az K G4 pk [])(mW:mg "_law_whole"=some (.ref fw))(kW:keepIn K (.ref fw)=true):Ef P w K mg base (aO P w) 2 f fd BH uJ:=by
 refine F.okN DU (λvs H Q E h=>?_) (λFV A outer s H vs Q E hr h=>?_)
 ·obtain⟨way,x,T,rfl,_⟩:=h;rfl
 ·obtain⟨way,x,T,rfl,w0,w1,th,q⟩:=h;have Gb:Fq 1 _:=hr.mono (by decide)
  refine⟨_,(ao (bc (PW.pt (eX (bR (b8 (av FW Gb (by rfl) mW kW bW .nil af (@aj _ _ _ _ _ (pv 1) ag rfl)))) (dA (bR (j2 fK fK ah (pv 1) ah))))) (au (ay cK)) aF)
   (au (ay (@bo _ _ _ _ _ _ _ bV (@cy _ _ _ _ (@aj _ _ _ _ _ cK (@aj _ _ _ _ _ cK (@aj _ _ _ _ _ cK (@aj _ _ _ _ _ cK ag rfl) rfl) rfl) rfl)) (pv 0) (λ_ _=>rfl))))),?_⟩
  have bad:eC x=false->∀H',ax H H'->Q (.str "degree") H':=λg H' sH=>by
   have:=q H' sH;unfold qm at this;rw[g,if_neg Bool.false_ne_true] at this;exact this
  refine⟨_,rfl,x,T,rfl,th,_,rfl,?_⟩
  cases th with
  |int i =>
   refine bD ?_;refine⟨_,rfl,_,_,rfl,rfl,_,rfl,?_⟩;have gd:eC (.int i)=(decide (0<=i)&&decide (i<=300)):=rfl;refine cp (λh0=>?_) (λh0=>?_)
   ·refine⟨_,_,rfl,rfl,_,rfl,?_⟩;refine cp (λh1=>?_) (λh1=>?_)
    ·refine bad ?_ _ (ax.refl _)
     have h1:¬i<=300:=by simpa using h1
     rw[gd,decide_eq_false h1,Bool.and_false]
    ·have h0:0<=i:=by simpa using h0
     have h1:i<=300:=by simpa using h1
     refine⟨EO,λr Ik=>?_⟩;have q':=q _ (aq (o:=.lst [.str "told",.str "told",.str "told",.str "filling"]) Ik);unfold qm at q';rw[gd,decide_eq_true h0,decide_eq_true h1,Bool.and_self,if_pos rfl] at q'
     rcases(by omega:way=0\/way=1\/way=2\/way=3) with z|z|z|z
     all_goals
      subst z;exact⟨_,rfl,r,_,_,_,rfl,rfl,ba.of ae,rfl,q'⟩
   ·have h0:¬0<=i:=by simpa using h0
    refine⟨_,rfl,aW (bad ?_ _ (ax.refl _))⟩;rw[gd,decide_eq_false h0,Bool.false_and]
  |_=>exact aW (aW (bad rfl _ (ax.refl _)))
set_option maxHeartbeats 2000000 in
theorem Cf {TJ TK TL IV CS CF ND NF:Addr}{NS NT NU HI:vH}(F:xR K "_law_asked" "_law_asked" ER f fd)
 (FLS:Ef P w K mg base (aO P w) 5 TJ NS ya (Cg CS CF ND))(bLS:L2.az K NS ya [])(mLS:mg "lets_showing"=some (.ref TJ))(kLS:keepIn K (.ref TJ)=true)
 (FLW:Ef P w K mg base (aO P w) 4 TK NT ya (C2 CS CF ND))(bLW:L2.az K NT ya [])(mLW:mg "lets_worths"=some (.ref TK))(kLW:keepIn K (.ref TK)=true)
 (FCu:Ef P w K mg base (aO P w) 3 TL NU xV (zC ND))(bCu:L2.az K NU xV [])(mCu:mg "cut"=some (.ref TL))(kCu:keepIn K (.ref TL)=true)
 (FWO:Ef P w K mg base (aO P w) 4 IV HI Ez (Cu ND NF))(bWO:L2.az K HI Ez [])(mWO:mg "worths_of"=some (.ref IV))(kWO:keepIn K (.ref IV)=true):
 Ef P w K mg base (aO P w) 6 f fd qe (yT CS CF ND NF):=by
 refine F.okE Ej (λvs H Q E h=>?_) (λFV A outer s H vs Q E hr h=>?_)
 ·obtain⟨way,sy,fl,p,n,as,bs,x,y,T,rfl,_⟩:=h;rfl
 ·obtain⟨way,sy,fl,p,n,as,bs,x,y,T,rfl,w0,w1,S,n0,n1,th,hy,q1,q2,q3⟩:=h;have JP:Fq 5 _:=hr.mono (by decide);have Ii:Fq 4 _:=hr.mono (by decide);have G5:Fq 3 _:=hr.mono (by decide);have hu:=(hr.units:_+64<cLine)
  replace hu:=Nat.lt_of_le_of_lt (Nat.add_le_add_left (by decide:1<=64) _) hu
  refine⟨_,(ao (bc (@aI _ _ _ _ _ _ _ _ du (pv 0) ah (aK _)) (au (ay (av FLS JP (by rfl) mLS kLS bLS .nil cD (@aj _ _ _ _ _ (pv 1) (@aj _ _ _ _ _ (pv 2) (@aj _ _ _ _ _ (pv 3) ag rfl) rfl) rfl)))) aF)
   (ao (bc (@aI _ _ _ _ _ _ _ _ du (pv 0) ah (aK _)) (au (ay (av FLW Ii (by rfl) mLW kLW bLW .nil cD (@aj _ _ _ _ _ (pv 1) (@aj _ _ _ _ _ (pv 2) (@aj _ _ _ _ _ (pv 3) ag rfl) rfl) rfl)))) aF)
   (ao (bc (@aI _ _ _ _ _ _ _ _ du (pv 0) ah (aK _)) (au (ay (av FCu G5 (by rfl) mCu kCu bCu .nil cD (@aj _ _ _ _ _ (vb hu (@bO _ _ _ _ _ ag) (@bO _ _ _ _ _ (@aj _ _ _ _ _ ah (@aj _ _ _ _ _ ah ag rfl) rfl))) (@aj _ _ _ _ _ (pv 2) ag rfl) rfl) (by decide) (aV rfl)))) aF)
   (au (ay (av FWO Ii (by rfl) mWO kWO bWO .nil cD (@aj _ _ _ _ _ (pv 1) (@aj _ _ _ _ _ (pv 2) (@aj _ _ _ _ _ (pv 3) ag rfl) rfl) rfl))))))),?_⟩
  rcases(by omega:way=0\/way=1\/way=2\/way=3) with z|z|z|z
  ·subst z;refine⟨_,rfl,rfl,_,rfl,aW ?_⟩;exact⟨_,rfl,_,rfl,_,rfl,sy,fl,p,n,as,bs,x,y,T,rfl,S,th,hy,λg H' sH=>q1 g (by decide) _ _ sH,λg=>q3 g _ (ax.refl _)⟩
  ·subst z;refine⟨_,rfl,rfl,_,rfl,bD ?_⟩;refine⟨_,rfl,rfl,_,rfl,aW ?_⟩;exact⟨_,rfl,_,rfl,_,rfl,sy,fl,p,n,as,bs,x,y,T,rfl,S,n0,n1,th,hy,λg H' sH=>q1 g (by decide) _ _ sH,λg=>q3 g _ (ax.refl _)⟩
  ·subst z;refine⟨_,rfl,rfl,_,rfl,bD ?_⟩;refine⟨_,rfl,rfl,_,rfl,bD ?_⟩;refine⟨_,rfl,rfl,_,rfl,aW ?_⟩;intro d hd;refine⟨Nat.zero_le _,λt0 IP=>⟨ic,λt1 Jo=>?_⟩⟩;have sd:=aq (o:=.dT []) hd;have s0:=sd.trans (aq (o:=.tup []) IP);have s1:=s0.trans (aq (o:=.tup [.int 1,.int 1]) Jo);have ed:=aq (o:=.tup [.int 1,.int 1]) Jo _ _ (aq (o:=.tup []) IP _ _ (ae:upd H d (.dT []) d=some (.dT [])));have et:=aq (o:=.tup [.int 1,.int 1]) Jo _ _ (ae:upd (upd H d (.dT [])) t0 (.tup []) t0=some (.tup []));generalize upd (upd (upd H d (.dT [])) t0 (.tup [])) t1 (.tup [.int 1,.int 1])=H1 at s1 ed et |-;refine⟨t0,[],rfl,et,ed,_,rfl,?_⟩
   have s2:ax H (upd H1 d (.dT [([],.ref t1)])):=λb u e=>by
    rw[ai (ar e hd)];exact s1 _ _ e
   refine⟨d,x,T,_,rfl,ae,by simp,(by show 1<=1000;decide),th.same s2,?_⟩
   rcases fI th with⟨i,rfl,i0,i1,g⟩|⟨no,g⟩
   ·exact .inl ⟨i,rfl,i0,i1,λH' D sb=>q1 g (by decide) _ _ λb u e=>sb _ _ (s2 _ _ e) (ar e hd)⟩
   ·exact .inr ⟨no,q3 g _ s2⟩
  ·subst z;refine⟨_,rfl,rfl,_,rfl,bD ?_⟩;refine⟨_,rfl,rfl,_,rfl,bD ?_⟩;refine⟨_,rfl,rfl,_,rfl,bD ?_⟩;exact⟨_,rfl,_,rfl,_,rfl,_,x,y,T,rfl,th,hy,λg H' sH=>q2 g rfl _ sH,λg=>q3 g _ (ax.refl _)⟩
noncomputable abbrev pL:Stmt:=(aJ 80)
theorem sN:∀{ks:List Int},ks.Pairwise (· < ·)->jj (ks.map V.int)=true
 |[],_=>rfl
 |[k],_=>rfl
 |a::b::ks,h=>by
  obtain⟨h1,h2⟩:=List.pairwise_cons.mp h;have ih:=sN h2;unfold jj at ih |-;have e:((a::b::ks).map V.int).zip (((a::b::ks).map V.int).drop 1)=(V.int a,V.int b):: (((b::ks).map V.int).zip (((b::ks).map V.int).drop 1)):=rfl;rw[e,List.all_cons,ih,Bool.and_true];exact decide_eq_true (h1 b List.mem_cons_self)
theorem Bd {ks:List Int}(h:ks.Pairwise (· < ·))(hb:∀k∈ks,0<=k/\k<60)(hl:ks.length<4000):CY ks:=by
 refine⟨?_,hl⟩;show((ks.map V.int).all cJ&&jj (ks.map V.int))=true;rw[sN h,Bool.and_true,List.all_map,List.all_eq_true];intro k hk;obtain⟨h0,h1⟩:=hb k hk;show(decide (0<=k)&&decide (k<60))=true;rw[decide_eq_true h0,decide_eq_true h1];rfl
noncomputable def tw:Sp:=λvs H Q _=>∃(r:Addr)(many share:Int),vs=[.ref r,.int many,.int share]/\aE H r/\0<=many/\many<=60/\0<share/\share<1000 /\
 ∀(a:Addr)(ks:List Int)(H':Hp),ks.Pairwise (· < ·)->(∀k∈ks,0<=k/\k<many)->ks.length<=60->H' a=some (.tup (ks.map V.int))->aE H' r->SameBut r H H'->Q (.ref a) H'
theorem zc:yd wU wU (ak pL):=c9 (by decide +kernel)
variable {ft:Addr}{Ho:vH}
theorem wQ (F:xR K "_law_product" "_law_product" pL f fd)(FX:mg "tuple"=none)(m_range:mg "range"=none)
 (FT:Ef P w K mg base (aO P w) 1 ft Ho zT Eb)(bT:L2.az K Ho zT [])(mT:mg "_law_take"=some (.ref ft))(kT:keepIn K (.ref ft)=true):
 Ef P w K mg base (aO P w) 2 f fd wU tw:=by
 refine F.okN zc (λvs H Q E h=>?_) (λFV A outer s H vs Q E hr h=>?_)
 ·obtain⟨r,many,share,rfl,_⟩:=h;rfl
 ·obtain⟨r,many,share,rfl,hR,m0,m1,s0,s1,q⟩:=h;have Gb:Fq 1 _:=hr.mono (by decide)
  refine⟨_,(au (ay (eW gK (by rfl) FX (by rfl) (@aj _ _ _ _ _ (cI (N:=["_law_place","_law_room_here","_law_share"]) (nl:=1) (js:=[0,2]) (osc:=ak pL) ⟨rfl,rfl,by decide +kernel,by decide +kernel,by decide +kernel,rfl,(.cons ⟨rfl,by decide +kernel⟩ (.cons ⟨rfl,by decide +kernel⟩ .nil)),by decide +kernel⟩ rfl
   (cX (by rfl) m_range (@aj _ _ _ _ _ (pv 1) ag rfl))
   (λC fp s H=>aA (i:=0) (by show(["_law_place","_law_room_here","_law_share"]:nO).Nodup;decide +kernel) rfl (Or.inl rfl) (Or.inr rfl))
   (λC fp s H=>(fA (@aI _ _ _ _ _ _ _ _ du (av FT Gb (by rfl) mT kT bT .nil af (@aj _ _ _ _ _ (pv 1) (@aj _ _ _ _ _ (pv 2) ag rfl) rfl)) ah (aK _))))
   (λC fp s H=>(pv 0))) ag rfl)))),?_⟩
  refine⟨_,rfl,many,rfl,by omega,by omega,?_⟩
  refine⟨λi m xs σ' H'=>m=many.toNat-i/\i<=many.toNat/\(∃ks:List Int,xs=ks.map V.int/\ks.Pairwise (· < ·)/\(∀k∈ks,0<=k/\k<(i:Int))/\ks.length<=i)/\aE H' r/\SameBut r H H'/\∃o,σ'=[o,some (.ref r),some (.int share)],
   ⟨many.toNat,by simp,Nat.zero_le _,⟨[],rfl,.nil,λk h=>(nomatch h),Nat.le_refl _⟩,hR,λ_ _ e _=>e,none,rfl⟩,?_⟩
  rintro i m xs σ' H' ⟨rfl,hi,⟨ks,rfl,NV,JU,NX⟩,⟨l,x,HM,x0,x1⟩,sb,o,rfl⟩;refine⟨by rw[List.length_map];exact Nat.lt_of_le_of_lt (Nat.le_trans NX (show i<=60 by omega)) (by decide),?_⟩
  by_cases FY:i<many.toNat
  ·refine .inr ⟨FY,λy H2 hy=>?_⟩;obtain⟨rfl,rfl⟩:=hy;refine⟨_,rfl,_,rfl,r,l,x,share,rfl,HM,x0,x1,s0,by omega,λz l2 r2 z0 z1 g0 g1=>?_⟩;have GU:SameBut r H (upd H2 r (.lst [.int l2,.int r2])):=sb.trans SameBut.upd;have R2:aE (upd H2 r (.lst [.int l2,.int r2])) r:=⟨l2,r2,ae,g0,g1⟩;refine⟨rfl,_,rfl,?_⟩;refine cp (λh=>?_) (λh=>?_)
   ·refine⟨_,rfl,many.toNat-(i+1),by omega,rfl,FY,⟨ks++[0+(i:Int)],by simp,?_,?_,by simp;omega⟩,R2,GU,_,rfl⟩
    ·refine List.pairwise_append.mpr ⟨NV,List.pairwise_singleton _ _,λa ha b hb=>?_⟩
     have:b=0+(i:Int):=by simpa using hb
     have:=(JU a ha).2;omega
    ·intro k hk
     rcases List.mem_append.mp hk with hk|hk
     ·have:=JU k hk;omega
     ·have:k=0+(i:Int):=by simpa using hk
      omega
   ·exact⟨many.toNat-(i+1),by omega,rfl,FY,⟨ks,rfl,NV,λk hk=>by have:=JU k hk;omega,by omega⟩,R2,GU,_,rfl⟩
  ·have ei:i=many.toNat:=by omega
   refine .inl ⟨by show many.toNat<=i;omega,λD hD=>?_⟩;refine⟨D,_,rfl,.inl ⟨ba.of ae,λa ha=>?_⟩⟩;have nD:r≠D:=ar HM hD;have na:r≠a:=ar (show upd H' D (.lst (ks.map V.int)) r=some (.lst [.int l,.int x]) by rw[ai nD];exact HM) ha;refine q a ks _ NV (λk hk=>by have:=JU k hk;omega) (by omega) ae ⟨l,x,by rw[ai na,ai nD];exact HM,x0,x1⟩ λb u e nb=>?_;have e1:=sb b u e nb
   have e2:upd H' D (.lst (ks.map V.int)) b=some u:=by rw[ai (ar e1 hD)];exact e1
   rw[ai (ar e2 ha)];exact e2
noncomputable abbrev rf:Stmt:=(aJ 81)
noncomputable def Em (p many:Int)(t:Tm):Prop:=Gn p 45 t.2/\t.1.Pairwise (· < ·)/\(∀k∈t.1,0<=k/\k<many)/\t.1.length<=60
noncomputable def kI:Sp:=λvs H Q _=>∃(r:Addr)(p many most:Int),vs=[.ref r,.int p,.int many,.int most]/\aE H r/\FP p/\0<=many/\many<=60/\0<=most/\most<=40 /\
 ∀(D:Addr)(ys:List V)(ts:List Tm)(H':Hp),H D=none->H' D=some (.lst ys)->bZ H' ys ts->(ts.length:Int)<=most->(∀t∈ts,Em p many t)->aE H' r->SameBut r H H'->Q (.ref D) H'
theorem aE.aaD {H H':Hp}{r:Addr}(h:aE H r)(s:SameBut r H H'):aG H H':=λb xs e=>s b _ e λz=>by
 obtain⟨l,x,e',_⟩:=h;rw[z,e'] at e
 cases e
theorem iw:yd ["_law_room_here","_law_prime_here","_law_many","_law_most","_law_found","_law_k","_law_product_here"] FK (ak rf):=c9 (by decide +kernel)
theorem tK {fp fn:Addr}{IJ Kt:vH}(F:xR K "_law_terms" "_law_terms" rf f fd)(m_range:mg "range"=none)
 (FT:Ef P w K mg base (aO P w) 1 ft Ho zT Eb)(bT:L2.az K Ho zT [])(mT:mg "_law_take"=some (.ref ft))(kT:keepIn K (.ref ft)=true)
 (FP:Ef P w K mg base (aO P w) 2 fp IJ wU tw)(bP:L2.az K IJ wU [])(mP:mg "_law_product"=some (.ref fp))(kP:keepIn K (.ref fp)=true)
 (FN:Ef P w K mg base (aO P w) 2 fn Kt ub yW)(bN:L2.az K Kt ub [])(mN:mg "_law_number"=some (.ref fn))(kN:keepIn K (.ref fn)=true):
 Ef P w K mg base (aO P w) 3 f fd FK kI:=by
 refine F.okN iw (λvs H Q E h=>?_) (λFV A outer s H vs Q E hr h=>?_)
 ·obtain⟨r,p,many,most,rfl,_⟩:=h;rfl
 ·obtain⟨r,p,many,most,rfl,hR,hp,m0,m1,n0,n1,q⟩:=h;have Gz:Fq 2 _:=hr.mono (by decide);have Gb:Fq 1 _:=hr.mono (by decide)
  refine⟨_,(ao (@aM _ _ 4 _ _ _ _ iw.nd rfl (Or.inl rfl) (@cy _ _ _ _ ag) rfl (Or.inl rfl))
   (ao (dJ PassesOwn.never rfl (cX (by rfl) m_range (@aj _ _ _ _ _ (av FT Gb (by rfl) mT kT bT .nil af (@aj _ _ _ _ _ (pv 0) (@aj _ _ _ _ _ (@aH _ _ _ _ _ _ _ _ cV (pv 3) ah) ag rfl) rfl)) ag rfl)) (aA (i:=5) iw.nd rfl (Or.inl rfl))
   (ao (@aM _ _ 6 _ _ _ _ iw.nd rfl (Or.inl rfl) (av FP Gz (by rfl) mP kP bP .nil af (@aj _ _ _ _ _ (pv 0) (@aj _ _ _ _ _ (pv 2) (@aj _ _ _ _ _ (@aH _ _ _ _ _ _ _ _ cV ah (av FT Gb (by rfl) mT kT bT .nil af (@aj _ _ _ _ _ (pv 0) (@aj _ _ _ _ _ ah ag rfl) rfl))) ag rfl) rfl) rfl)) rfl (Or.inl rfl))
   (au (fG (rF PySem.F.plainAttrs_list PySem.F.slot_list_append PySem.F.type_list_append lR (pv 4) (@aj _ _ _ _ _ (@bO _ _ _ _ _ (@aj _ _ _ _ _ (pv 6) (@aj _ _ _ _ _ (av FN Gz (by rfl) mN kN bN .nil af (@aj _ _ _ _ _ (pv 0) (@aj _ _ _ _ _ (pv 1) ag rfl) rfl)) ag rfl) rfl)) ag rfl))))))
   (au (ay (pv 4))))),?_⟩
  refine⟨Nat.zero_le _,λD hD=>?_⟩;obtain⟨l0,x0,Kx,a0,a1⟩:=hR;have Iy:r≠D:=ar Kx hD
  have hR1:upd H D (.lst []) r=some (.lst [.int l0,.int x0]):=by rw[ai Iy];exact Kx
  refine⟨_,rfl,_,rfl,_,_,rfl,rfl,r,l0,x0,most+1,rfl,hR1,a0,a1,by omega,by omega,λz l1 x1 z0 z1 b0 b1=>?_⟩
  have GS:SameBut r H (upd (upd H D (.lst [])) r (.lst [.int l1,.int x1])):=λb u e nb=>by rw[ai nb,ai (ar e hD)];exact e
  have R1:aE (upd (upd H D (.lst [])) r (.lst [.int l1,.int x1])) r:=⟨l1,x1,ae,b0,b1⟩
  have IK:upd (upd H D (.lst [])) r (.lst [.int l1,.int x1]) D=some (.lst []):=by rw[ai (Ne.symm Iy)];exact ae
  generalize upd (upd H D (.lst [])) r (.lst [.int l1,.int x1])=H1 at GS R1 IK |-;refine⟨z,rfl,by omega,by omega,?_⟩
  refine⟨λi m σ' H'=>m=z.toNat-i/\i<=z.toNat/\aE H' r/\SameBut r H H'/\(∃ys ts,H' D=some (.lst ys)/\bZ H' ys ts/\ts.length=i/\∀t∈ts,Em p many t)/\∃o5 o6,σ'=[some (.ref r),some (.int p),some (.int many),some (.int most),some (.ref D),o5,o6],
   ⟨z.toNat,by simp,Nat.zero_le _,R1,GS,⟨[],[],IK,.nil,rfl,λt h=>(nomatch h)⟩,none,none,rfl⟩,?_⟩
  rintro i m σ' H' ⟨rfl,hi,HM,HV,⟨ys,ts,eD,ht,tl,tg⟩,o5,o6,rfl⟩
  by_cases FY:i<z.toNat
  ·refine .inr ⟨FY,λσ' H'=>aE H' r/\SameBut r H H'/\(∃ys ts,H' D=some (.lst ys)/\bZ H' ys ts/\ts.length=i+1/\∀t∈ts,Em p many t)/\∃o5 o6,σ'=[some (.ref r),some (.int p),some (.int many),some (.int most),some (.ref D),o5,o6],?_,λy H2 hy=>?_⟩
   ·rintro σ' H' ⟨h1,h2,h3,h4⟩;exact⟨z.toNat-(i+1),by omega,rfl,FY,h1,h2,h3,h4⟩
   ·obtain⟨rfl,rfl⟩:=hy;obtain⟨l2,x2,e2,c0,c1⟩:=HM;refine⟨_,rfl,_,rfl,_,rfl,r,l2,x2,2,rfl,e2,c0,c1,by decide,by decide,λu l3 x3 u0 u1 d0 d1=>?_⟩;have R3:aE (upd H2 r (.lst [.int l3,.int x3])) r:=⟨l3,x3,ae,d0,d1⟩;have Jq:SameBut r H2 (upd H2 r (.lst [.int l3,.int x3])):=SameBut.upd;generalize upd H2 r (.lst [.int l3,.int x3])=H3 at R3 Jq |-;refine⟨_,_,rfl,rfl,r,many,2+u,rfl,R3,m0,m1,by omega,by omega,λa ks H4 NV JU NX ha R4 IU=>?_⟩;have Ry:H4 D=some (.lst ys):=IU _ _ (Jq _ _ eD (Ne.symm Iy)) (Ne.symm Iy);have k2:aG H2 H3:=aE.aaD ⟨l2,x2,e2,c0,c1⟩ Jq;have k3:aG H3 H4:=R3.aaD IU;refine⟨_,rfl,.inl ⟨rfl,_,ba.of Ry⟩,_,rfl,_,rfl,_,rfl,r,p,rfl,hp,R4,λan tt bb H5 hn B1 B2 hn5 R5 TN=>?_⟩;have k4:aG H4 H5:=R4.aaD TN;refine⟨ic,λtu RH=>?_⟩;have Nu:H5 D=some (.lst ys):=TN _ _ Ry (Ne.symm Iy);have sU:ax H5 (upd H5 tu (.tup [.ref a,.ref an])):=aq RH;have MG:=sU _ _ Nu;refine⟨D,ys,.ref tu,rfl,rfl,MG,?_,?_⟩
    ·rw[ht.length];exact Nat.lt_of_le_of_lt (show ts.length<=60 by omega) (by decide)
    have kD:aG (upd H5 tu (.tup [.ref a,.ref an])) (upd (upd H5 tu (.tup [.ref a,.ref an])) D (.lst (ys++[.ref tu]))):=aG.upd λxs z=>by rw[MG] at z;cases z
    have kA:aG H2 (upd (upd H5 tu (.tup [.ref a,.ref an])) D (.lst (ys++[.ref tu]))):=((k2.trans k3).trans k4).trans ((aG.of sU).trans kD);obtain⟨l6,x6,e6,f0,f1⟩:=R5;refine⟨⟨l6,x6,by rw[ai Iy];exact sU _ _ e6,f0,f1⟩,λb u e nb=>?_,⟨_,ts++[(ks,tt,bb)],ae,Paired.snoc (bZ.keep ht kA) ⟨tu,a,an,rfl,kD _ _ ae,kD _ _ (sU _ _ (k4 _ _ ha)),kD _ _ (sU _ _ hn5)⟩,by simp[tl],λt h=>?_⟩,_,_,rfl⟩
    ·have nb2:b≠D:=ar e hD;rw[ai nb2];exact sU _ _ (TN _ _ (IU _ _ (Jq _ _ (HV _ _ e nb) nb) nb) nb)
    ·rcases List.mem_append.mp h with h|h
     ·exact tg t h
     ·have:t=(ks,tt,bb):=by simpa using h
      subst this;exact⟨⟨hn,B1,B2⟩,NV,JU,NX⟩
  ·have ei:i=z.toNat:=by omega
   refine .inl ⟨by show z.toNat<=i;omega,?_⟩;exact⟨_,rfl,q D ys ts H' hD eD ht (by omega) tg HM HV⟩
noncomputable abbrev pU:Stmt:=(aJ 84)
noncomputable def oQ:Sp:=λvs H Q _=>∃(r:Addr)(many:Int),vs=[.ref r,.int many]/\aE H r/\0<=many/\many<=100 /\
 ∀(a:Addr)(ks:List Int)(H':Hp),(∀k∈ks,0<=k/\k<=1)->(ks.length:Int)=many->H' a=some (.tup (ks.map V.int))->aE H' r->SameBut r H H'->Q (.ref a) H'
theorem yX:yd zT zT (ak pU):=c9 (by decide +kernel)
theorem vJ (F:xR K "_law_filling" "_law_filling" pU f fd)(FX:mg "tuple"=none)(m_range:mg "range"=none)
 (FT:Ef P w K mg base (aO P w) 1 ft Ho zT Eb)(bT:L2.az K Ho zT [])(mT:mg "_law_take"=some (.ref ft))(kT:keepIn K (.ref ft)=true):
 Ef P w K mg base (aO P w) 2 f fd zT oQ:=by
 refine F.okN yX (λvs H Q E h=>?_) (λFV A outer s H vs Q E hr h=>?_)
 ·obtain⟨r,many,rfl,_⟩:=h;rfl
 ·obtain⟨r,many,rfl,hR,m0,m1,q⟩:=h;have Gb:Fq 1 _:=hr.mono (by decide)
  refine⟨_,(au (ay (eW gK (by rfl) FX (by rfl) (@aj _ _ _ _ _ (cI (N:=["_law_place","_law_room_here"]) (nl:=1) (js:=[0]) (osc:=ak pU) ⟨rfl,rfl,by decide +kernel,by decide +kernel,by decide +kernel,rfl,(.cons ⟨rfl,by decide +kernel⟩ .nil),by decide +kernel⟩ rfl
   (cX (by rfl) m_range (@aj _ _ _ _ _ (pv 1) ag rfl))
   (λC fp s H=>aA (i:=0) (by show(["_law_place","_law_room_here"]:nO).Nodup;decide +kernel) rfl (Or.inl rfl) (Or.inr rfl))
   (λC fp s H=>ck)
   (λC fp s H=>(av FT Gb (by rfl) mT kT bT .nil af (@aj _ _ _ _ _ (pv 1) (@aj _ _ _ _ _ ah ag rfl) rfl)))) ag rfl)))),?_⟩
  refine⟨_,rfl,many,rfl,by omega,by omega,?_⟩
  refine⟨λi m xs σ' H'=>m=many.toNat-i/\i<=many.toNat/\(∃ks:List Int,xs=ks.map V.int/\(∀k∈ks,0<=k/\k<=1)/\ks.length=i)/\aE H' r/\SameBut r H H'/\∃o,σ'=[o,some (.ref r)],
   ⟨many.toNat,by simp,Nat.zero_le _,⟨[],rfl,λk h=>(nomatch h),rfl⟩,hR,λ_ _ e _=>e,none,rfl⟩,?_⟩
  rintro i m xs σ' H' ⟨rfl,hi,⟨ks,rfl,JU,NX⟩,⟨l,x,HM,x0,x1⟩,sb,o,rfl⟩;refine⟨by rw[List.length_map];exact Nat.lt_of_le_of_lt (show ks.length<=100 by omega) (by decide),?_⟩
  by_cases FY:i<many.toNat
  ·refine .inr ⟨FY,λy H2 hy=>?_⟩;obtain⟨rfl,rfl⟩:=hy;dsimp only[BX,aZ];refine aW ⟨_,rfl,r,l,x,2,rfl,HM,x0,x1,by decide,by decide,λz l2 r2 z0 z1 g0 g1=>?_⟩;refine⟨many.toNat-(i+1),by omega,rfl,FY,⟨ks++[z],by simp,λk hk=>?_,by simp[NX]⟩,⟨l2,r2,ae,g0,g1⟩,sb.trans SameBut.upd,_,rfl⟩
   rcases List.mem_append.mp hk with hk|hk
   ·exact JU k hk
   ·have:k=z:=by simpa using hk
    omega
  ·have ei:i=many.toNat:=by omega
   refine .inl ⟨by show many.toNat<=i;omega,λD hD=>?_⟩;refine⟨D,_,rfl,.inl ⟨ba.of ae,λa ha=>?_⟩⟩;have nD:r≠D:=ar HM hD;have na:r≠a:=ar (show upd H' D (.lst (ks.map V.int)) r=some (.lst [.int l,.int x]) by rw[ai nD];exact HM) ha;refine q a ks _ JU (by omega) ae ⟨l,x,by rw[ai na,ai nD];exact HM,x0,x1⟩ λb u e nb=>?_;have e1:=sb b u e nb
   have e2:upd H' D (.lst (ks.map V.int)) b=some u:=by rw[ai (ar e1 hD)];exact e1
   rw[ai (ar e2 ha)];exact e2
noncomputable abbrev mX:Stmt:=(aJ 83)
noncomputable def qz (bs:List Int)(ks:List Int):Bool:=(ks.filter λk=>bs.getD k.toNat 0==0).isEmpty
noncomputable def hX (p:Int)(bs:List Int)(a:Int×Int)(t:Tm):Int×Int:=if qz bs t.1=true then dY p a t.2 else a
noncomputable def aU (p:Int)(bs:List Int)(ts:List Tm):Int×Int:=ts.foldl (hX p bs) (0,1)
theorem jM (p:Int)(bs:List Int)(ts:List Tm)(t:Tm):aU p bs (ts++[t])=hX p bs (aU p bs ts) t:=by
 unfold aU;rw[List.foldl_append];rfl
theorem hZ {p:Int}{m:Nat}{bs:List Int}(hp:FP p):∀(n:Nat)(ts:List Tm),ts.length=n->(∀t∈ts,Gn p m t.2)->Gn p ((m+1)*n+7) (aU p bs ts)
 |0,ts,hn,_=>by
  have:ts=[]:=List.length_eq_zero_iff.mp hn;subst this;show Gn p ((m+1)*0+7) (0,1);refine⟨⟨(by show(0:Int)<1;decide),(by show Int.gcd 0 1=1;decide),λz=>⟨rfl,(by show(0:Int)<=0;decide),?_⟩⟩,?_,?_⟩
  ·have:=(hp.two z).2.1;show(0:Int)<p;omega
  ·show(0:Int).natAbs<2^((m+1)*0+7);rw[Nat.mul_zero];decide
  ·show(1:Int).natAbs<2^((m+1)*0+7);rw[Nat.mul_zero];decide
 |n+1,ts,hn,h=>by
  obtain⟨JO,t,rfl⟩:∃JO t,ts=JO++[t]:=by
   have Gw:ts≠[]:=by intro z;rw[z] at hn;cases hn
   exact⟨ts.dropLast,ts.getLast Gw,(List.dropLast_concat_getLast Gw).symm⟩
  have hl:JO.length=n:=by simpa using hn
  have ih:=hZ (bs:=bs) hp n JO hl λt ht=>h t (List.mem_append_left _ ht);have gt:=h t (List.mem_append_right _ (by simp));rw[jM];have e2:(m+1)*(n+1)=(m+1)*n+(m+1):=Nat.mul_succ _ _;unfold hX
  split
  ·have g:=mi hp ih gt (by omega);exact⟨g.1,g.2.1.mono (by omega),g.2.2.mono (by omega)⟩
  ·exact⟨ih.1,ih.2.1.mono (by omega),ih.2.2.mono (by omega)⟩
noncomputable def vR:Sp:=λvs H Q _=>∃(l fa:Addr)(p:Int)(ys:List V)(ts:List Tm)(bs:List Int)(m:Nat),vs=[.int p,.ref l,.ref fa]/\FP p/\H l=some (.lst ys)/\bZ H ys ts/\H fa=some (.tup (bs.map V.int))/\bs.length<4000 /\
 (∀t∈ts,Gn p m t.2/\t.1.length<4000/\∀k∈t.1,0<=k/\k<(bs.length:Int))/\(m+1)*ts.length+7<=4000/\m<=4000/\∀H' a,ax H H'->H' a=some (cA (aU p bs ts).1 (aU p bs ts).2)->Q (.ref a) H'
theorem gf:yd ["_law_prime_here","_law_terms_here","_law_filling_here","_law_found","_law_product_here","_law_number_here"] pE (ak mX):=c9 (by decide +kernel)
theorem A5 {bs:List Int}{k:Int}(h0:0<=k)(h1:k<(bs.length:Int)):mR (bs.map V.int) k=some (.int (bs.getD k.toNat 0)):=by
 unfold mR xy;rw[List.length_map,if_pos h0,if_pos h1];show(bs.map V.int)[k.toNat]?=_
 have hk:k.toNat<bs.length:=by omega
 rw[List.getElem?_map,List.getElem?_eq_getElem hk,List.getD_eq_getElem?_getD,List.getElem?_eq_getElem hk];rfl
theorem uz {fl:Addr}{Hn:vH}(F:xR K "_law_worth" "_law_worth" mX f fd)
 (SR:Ef P w K mg base (aO P w) 3 fl Hn D1 (ko jg))(SS:L2.az K Hn D1 [])(SU:mg "_law_plus"=some (.ref fl))(SV:keepIn K (.ref fl)=true):
 Ef P w K mg base (aO P w) 4 f fd pE vR:=by
 refine F.okN gf (λvs H Q E h=>?_) (λFV A outer s H vs Q E hr h=>?_)
 ·obtain⟨l,fa,p,ys,ts,bs,m,rfl,_⟩:=h;rfl
 ·obtain⟨l,fa,p,ys,ts,bs,m,rfl,hp,hl,Kn,LD,hbs,hG,hm,Np,q⟩:=h;have G5:Fq 3 _:=hr.mono (by decide);have Gb:Fq 1 _:=hr.mono (by decide)
  refine⟨_,(ao (@aM _ _ 3 _ _ _ _ gf.nd rfl (Or.inl rfl) (@bO _ _ _ _ _ (@aj _ _ _ _ _ ah (@aj _ _ _ _ _ ah ag rfl) rfl)) rfl (Or.inl rfl))
   (ao (dJ PassesOwn.never rfl (cE (pv 1)) (cf rfl (aC (aA (i:=4) gf.nd rfl (Or.inl rfl)) (aC (aA (i:=5) gf.nd rfl (Or.inl rfl)) bH)))
   (au (bc (@aI _ _ _ _ _ _ _ _ (xv Gb) (cI (N:=["_law_place","_law_filling_here"]) (nl:=1) (js:=[2]) (osc:=ak mX) ⟨rfl,rfl,by decide +kernel,by decide +kernel,by decide +kernel,rfl,(.cons ⟨rfl,by decide +kernel⟩ .nil),by decide +kernel⟩ rfl
    (qg (pv 4))
    (λC fp s H=>aA (i:=0) (by show(["_law_place","_law_filling_here"]:nO).Nodup;decide +kernel) rfl (Or.inl rfl) (Or.inr rfl))
    (λC fp s H=>(fA (@aI _ _ _ _ _ _ _ _ du (@bo _ _ _ _ _ _ _ (show Ay _ (xE K) from bK) (pv 1) (pv 0) (λ_ _=>rfl)) ah (aK _))))
    (λC fp s H=>(pv 0))) (@cy _ _ _ _ ag) (aK _)) (au (@aM _ _ 3 _ _ _ _ gf.nd rfl (Or.inl rfl) (av SR G5 (by rfl) SU SV SS .nil af (@aj _ _ _ _ _ (pv 0) (@aj _ _ _ _ _ (pv 3) (@aj _ _ _ _ _ (pv 5) ag rfl) rfl) rfl)) rfl (Or.inl rfl))) aF)))
   (au (ay (pv 3))))),?_⟩
  have gg:∀i,i<=ts.length->Gn p 4000 (aU p bs (ts.take i)):=λi hi=>by
   have b:=hZ (m:=m) (bs:=bs) hp i (ts.take i) (by simp;omega) λt ht=>(hG t (List.mem_of_mem_take ht)).1;have le:(m+1)*i+7<=4000:=Nat.le_trans (Nat.add_le_add_right (Nat.mul_le_mul_left _ hi) _) hm;exact⟨b.1,b.2.1.mono le,b.2.2.mono le⟩
  have one:∀{n:Nat}{a:Int×Int},Gn p n a->p≠0->a.2=1:=λh z=>(h.1.pr z).1;have hlen:=Kn.length;refine⟨ic,λt0 IP=>?_⟩;have s1:ax H (upd H t0 (cA 0 1)):=aq IP;refine⟨_,rfl,l,rfl,⟨ys,ba.of (s1 _ _ hl)⟩,?_⟩
  refine⟨λi m σ' H'=>m=ts.length-i/\i<=ts.length/\ax H H'/\∃aw o4 o5,H' aw=some (cA (aU p bs (ts.take i)).1 (aU p bs (ts.take i)).2)/\σ'=[some (.int p),some (.ref l),some (.ref fa),some (.ref aw),o4,o5],
   ⟨ts.length,by simp,Nat.zero_le _,s1,t0,none,none,ae,rfl⟩,?_⟩
  rintro i m' σ' H' ⟨rfl,hi,sH,aw,o4,o5,hw,rfl⟩;have G6:=sH _ _ hl;have TQ:=sH _ _ LD
  by_cases FY:i<ts.length
  ·have Nq:i<ys.length:=by omega
   refine .inr ⟨⟨ys,ys[i],ba.of G6,by simp[Nq]⟩,λσ' H'=>i+1<=ts.length/\ax H H'/\∃aw o4 o5,H' aw=some (cA (aU p bs (ts.take (i+1))).1 (aU p bs (ts.take (i+1))).2)/\σ'=[some (.int p),some (.ref l),some (.ref fa),some (.ref aw),o4,o5],?_,λy H2 hy=>?_⟩
   ·rintro σ' H' ⟨h1,h2,h3⟩;exact⟨ts.length-(i+1),by omega,rfl,h1,h2,h3⟩
   ·obtain⟨rfl,hy⟩:=hy;obtain⟨t,et,tr⟩:=cn Kn (hy ys (ba.of G6));obtain⟨a,pr,nu,rfl,ha,GV,HY⟩:=tr.keep (aG.of sH);obtain⟨gt,gl,gk⟩:=hG t (List.mem_of_getElem? et)
    have Hv:ts.take (i+1)=ts.take i++[t]:=by rw[List.take_add_one,et];rfl
    rw[Hv,jM];refine⟨a,_,rfl,bx.of ha,rfl,_,_,rfl,_,_,rfl,rfl,?_⟩;refine⟨_,rfl,pr,rfl,⟨_,bx.of GV⟩,?_⟩;refine⟨λj m us σ' H3=>m=t.1.length-j/\j<=t.1.length/\H2=H3/\us=((t.1.take j).filter λk=>bs.getD k.toNat 0==0).map V.int/\∃o,σ'=[o,some (.ref fa)],⟨t.1.length,by simp,Nat.zero_le _,rfl,rfl,none,rfl⟩,?_⟩;rintro j m' us σ' H3 ⟨rfl,hj,rfl,rfl,o,rfl⟩;refine⟨?_,?_⟩
    ·rw[List.length_map];exact Nat.lt_of_le_of_lt (List.length_filter_le _ _) (Nat.lt_of_le_of_lt (by simp;omega) (Nat.lt_trans gl (by decide)))
    by_cases G7:j<t.1.length
    ·refine .inr ⟨⟨t.1.map V.int,.int (t.1[j]),bx.of GV,by simp[G7]⟩,λx H4 hx=>?_⟩;obtain⟨rfl,hx⟩:=hx
     have ex:t.1[j]?=some t.1[j]:=by simp[G7]
     have ev:x=.int t.1[j]:=by
      have:=hx _ (bx.of GV);rw[List.getElem?_map,ex] at this;exact(Option.some.inj this).symm
     subst ev;obtain⟨k0,k1⟩:=gk t.1[j] (List.getElem_mem G7)
     have ek:t.1.take (j+1)=t.1.take j++[t.1[j]]:=by rw[List.take_add_one,ex];rfl
     refine⟨_,rfl,_,rfl,fa,_,_,_,rfl,rfl,bx.of TQ,A5 k0 k1,rfl,_,rfl,?_⟩;refine cp (λh=>?_) (λh=>?_)
     ·have hz:bs.getD (t.1[j]).toNat 0=0:=by simpa using h
      refine⟨_,rfl,t.1.length-(j+1),by omega,rfl,G7,rfl,?_,_,rfl⟩
      have f1:[t.1[j]].filter (λk=>bs.getD k.toNat 0==0)=[t.1[j]]:=by
       rw[List.filter_cons_of_pos (by show(bs.getD (t.1[j]).toNat 0==0)=true;rw[hz];rfl)];rfl
      rw[ek,List.filter_append,List.map_append,f1];rfl
     ·have hz:¬bs.getD (t.1[j]).toNat 0=0:=by simpa using h
      refine⟨t.1.length-(j+1),by omega,rfl,G7,rfl,?_,_,rfl⟩;rw[ek,List.filter_append,List.map_append]
      have f1:[t.1[j]].filter (λk=>bs.getD k.toNat 0==0)=[]:=by
       rw[List.filter_cons_of_neg (by show ¬(bs.getD (t.1[j]).toNat 0==0)=true;intro z;exact hz (eq_of_beq z))];rfl
      rw[f1,List.map_nil,List.append_nil]
    ·have ej:j=t.1.length:=by omega
     subst ej;refine .inl ⟨⟨_,bx.of GV,by simp⟩,λL hL=>?_⟩;rw[List.take_length];have sL:ax H2 (upd H2 L (.lst ((t.1.filter λk=>bs.getD k.toNat 0==0).map V.int))):=aq hL;refine⟨Nat.zero_le _,λL2 JL=>?_⟩;have s2:ax (upd H2 L (.lst ((t.1.filter λk=>bs.getD k.toNat 0==0).map V.int))) (upd (upd H2 L (.lst ((t.1.filter λk=>bs.getD k.toNat 0==0).map V.int))) L2 (.lst [])):=aq JL;have sA:ax H2 (upd (upd H2 L (.lst ((t.1.filter λk=>bs.getD k.toNat 0==0).map V.int))) L2 (.lst [])):=λb u e=>s2 _ _ (sL _ _ e);refine⟨L,L2,_,rfl,rfl,ba.of (s2 _ _ ae),ba.of ae,_,rfl,?_⟩;have gw:=gg i (Nat.le_of_lt FY)
     cases Il:qz bs t.1 with
     |true =>
      have xe:(t.1.filter λk=>bs.getD k.toNat 0==0).map V.int=[]:=by
       have:t.1.filter (λk=>bs.getD k.toNat 0==0)=[]:=List.isEmpty_iff.mp Il;rw[this];rfl
      have ew:hX p bs (aU p bs (ts.take i)) t=dY p (aU p bs (ts.take i)) t.2:=by unfold hX;rw[if_pos Il]
      rw[decide_eq_true xe];refine aW ⟨_,rfl,_,rfl,_,rfl,p,(aU p bs (ts.take i)).1,(aU p bs (ts.take i)).2,t.2.1,t.2.2,aw,nu,rfl,hp,sA _ _ hw,sA _ _ HY,gw.2.1,gw.2.2,gt.2.1.mono Np,gt.2.2.mono Np,gw.ne,gt.ne,λz=>by rw[one gt z,one gw z];decide,λH5 an s5 h5=>?_⟩;refine⟨FY,λb u e=>s5 _ _ (sA _ _ (sH _ _ e)),an,_,_,?_,rfl⟩;rw[ew];exact h5
     |false =>
      have xe:¬(t.1.filter λk=>bs.getD k.toNat 0==0).map V.int=[]:=λz=>by
       have:t.1.filter (λk=>bs.getD k.toNat 0==0)=[]:=List.map_eq_nil_iff.mp z;unfold qz at Il;rw[this] at Il
       cases Il
      have ew:hX p bs (aU p bs (ts.take i)) t=aU p bs (ts.take i):=by unfold hX;rw[if_neg (by rw[Il];decide)]
      rw[decide_eq_false xe];refine bD ⟨FY,λb u e=>sA _ _ (sH _ _ e),aw,_,_,?_,rfl⟩;rw[ew];exact sA _ _ hw
  ·have ei:i=ts.length:=by omega
   subst ei;rw[List.take_length] at hw;exact .inl ⟨⟨ys,ba.of G6,by omega⟩,_,rfl,q _ aw sH hw⟩
noncomputable abbrev sW:Stmt:=(aJ 77)
theorem wI:yd D1 D1 (ak sW):=c9 (by decide +kernel)
theorem tZ {fl:Addr}{Hn:vH}(F:xR K "_law_times" "_law_times" sW f fd)(FL:Ef P w K mg base (aO P w) 2 fl Hn vY vV)(bL:L2.az K Hn vY [])(mL:mg "_law_make"=some (.ref fl))(kL:keepIn K (.ref fl)=true):
 Ef P w K mg base (aO P w) 3 f fd D1 (ko eG):=by
 refine F.okN wI (λvs H Q E h=>?_) (λFV A outer s H vs Q E hr h=>?_)
 ·obtain⟨p,t1,b1,t2,b2,x1,x2,rfl,_⟩:=h;rfl
 ·obtain⟨p,t1,b1,t2,b2,x1,x2,rfl,hp,h1,h2,B1,B2,B3,B4,n1,n2,hb,q⟩:=h;refine⟨_,au (ay (av FL hr (by rfl) mL kL bL .nil af (aj (pv 0) (aj (aH dh (bo bK (pv 1) ah (λ_ _=>rfl)) (bo bK (pv 2) ah (λ_ _=>rfl))) (aj (aH dh (bo bK (pv 1) ah (λ_ _=>rfl)) (bo bK (pv 2) ah (λ_ _=>rfl))) ag))))),?_⟩;refine⟨_,rfl,?_⟩;refine⟨_,rfl,x1,_,0,_,rfl,rfl,bx.of h1,a0 _ _,_,rfl,x2,_,0,_,rfl,rfl,bx.of h2,a0 _ _,_,_,rfl,rfl,⟨B1.mono (by decide),B3.mono (by decide)⟩,?_⟩;refine⟨_,rfl,x1,_,1,_,rfl,rfl,bx.of h1,a1 _ _,_,rfl,x2,_,1,_,rfl,rfl,bx.of h2,a1 _ _,_,_,rfl,rfl,⟨B2.mono (by decide),B4.mono (by decide)⟩,?_⟩;exact⟨p,_,_,rfl,hp,qA n1 n2,(B2.mul B4).mono (by decide),(B1.mul B3).mono (by decide),hb,q⟩
end K26
namespace L2
open PySem PySem.Spec PyProof.Rows
end L2
namespace K26
open PySem L2 PySem.W Nm Srt
noncomputable abbrev EL:Stmt:=(aJ 86)
theorem Ad:yd ["_law_room_here","_law_prime_here","_law_many","_law_most","_law_planted","_law_rows","_law_here"] BS (ak EL):=c9 (by decide +kernel)
noncomputable def zE (H:Hp)(y:V)(many:Int):Prop:=y=.non\/∃(a:Addr)(bs:List Int),y=.ref a/\H a=some (.tup (bs.map V.int))/\(bs.length:Int)=many
structure DQ (p many:Int)(raw:List Tm):Prop where
 l:raw.length<=5
 t:∀t∈raw,Gn p 192 t.2/\t.1.Pairwise (· < ·)/\(∀k∈t.1,0<=k/\k<many)/\t.1.length<=60
variable {p many:Int}{raw:List Tm}
theorem DQ.gth (h:DQ p many raw)(hp:FP p):BN p raw:=by
 have:=h.l;exact BN.of hp (by omega) (λt ht=>(h.t t ht).1) (by omega) (by decide)
noncomputable def vq:Sp:=λvs H Q _=>∃(r:Addr)(p many most:Int)(y:V),vs=[.ref r,.int p,.int many,.int most,y]/\aE H r/\FP p/\0<=many/\many<=60/\0<=most/\most<=4/\zE H y many /\
 ∀(L:Addr)(ys:List V)(raw:List Tm)(H':Hp),H' L=some (.lst ys)->bZ H' ys (fP (aY p raw))->DQ p many raw->aE H' r->SameBut r H H'->Q (.ref L) H'
variable {H H':Hp}{r:Addr}
theorem aE.same (h:aE H r)(s:ax H H'):aE H' r:=let⟨l,x,e,z⟩:=h;⟨l,x,s _ _ e,z⟩
variable {P:zO}{w:World}{K:PySem.W.Frag}{mg:yN}{base:Heap}
variable {f:Addr}{fd:vH}
theorem C7 {LF IV TR LG:Addr}{IW HI NY IX:vH}(F:xR K "_law_wish" "_law_wish" EL f fd)
 (TU:Ef P w K mg base (aO P w) 3 LF IW FK kI)(TV:L2.az K IW FK [])(TY:mg "_law_terms"=some (.ref LF))(TZ:keepIn K (.ref LF)=true)
 (T3:Ef P w K mg base (aO P w) 4 IV HI pE vR)(T4:L2.az K HI pE [])(T5:mg "_law_worth"=some (.ref IV))(T6:keepIn K (.ref IV)=true)
 (FTi:Ef P w K mg base (aO P w) 3 TR NY D1 (ko eG))(bTi:L2.az K NY D1 [])(mTi:mg "_law_times"=some (.ref TR))(kTi:keepIn K (.ref TR)=true)
 (T7:Ef P w K mg base (aO P w) 4 LG IX Fv jT)(T8:L2.az K IX Fv [])(T9:mg "_law_gather"=some (.ref LG))(Ua:keepIn K (.ref LG)=true):
 Ef P w K mg base (aO P w) 5 f fd BS vq:=by
 refine F.okN Ad (λvs H Q E h=>?_) (λFV A outer s H vs Q E hr h=>?_)
 ·obtain⟨r,p,many,most,y,rfl,_⟩:=h;rfl
 ·obtain⟨r,p,many,most,y,rfl,hR,hp,m0,m1,n0,n1,hy,q⟩:=h;have JP:Fq 3 _:=hr.mono (by decide);have Gz:Fq 3 _:=hr.mono (by decide);have G5:Fq 4 _:=hr.mono (by decide)
  refine⟨_,(ao (@aM _ _ 5 _ _ _ _ Ad.nd rfl (Or.inl rfl) (av TU JP (by rfl) TY TZ TV .nil af (@aj _ _ _ _ _ (pv 0) (@aj _ _ _ _ _ (pv 1) (@aj _ _ _ _ _ (pv 2) (@aj _ _ _ _ _ (pv 3) ag rfl) rfl) rfl) rfl)) rfl (Or.inl rfl))
   (ao (bc (@aI _ _ _ _ _ _ _ _ rV (pv 4) fV (aK _)) (ao (@aM _ _ 6 _ _ _ _ Ad.nd rfl (Or.inl rfl) (av T3 G5 (by rfl) T5 T6 T4 .nil af (@aj _ _ _ _ _ (pv 1) (@aj _ _ _ _ _ (pv 5) (@aj _ _ _ _ _ (pv 4) ag rfl) rfl) rfl)) rfl (Or.inl rfl))
   (au (fG (rF PySem.F.plainAttrs_list PySem.F.slot_list_append PySem.F.type_list_append lR (pv 5) (@aj _ _ _ _ _ (@bO _ _ _ _ _ (@aj _ _ _ _ _ (@bO _ _ _ _ _ ag) (@aj _ _ _ _ _ (av FTi Gz (by rfl) mTi kTi bTi .nil af (@aj _ _ _ _ _ (pv 1) (@aj _ _ _ _ _ (@bO _ _ _ _ _ (@aj _ _ _ _ _ (@aH _ _ _ _ _ _ _ _ gU ah ah) (@aj _ _ _ _ _ ah ag rfl) rfl)) (@aj _ _ _ _ _ (pv 6) ag rfl) rfl) rfl)) ag rfl) rfl)) ag rfl))))) aF)
   (au (ay (av T7 G5 (by rfl) T9 Ua T8 .nil af (@aj _ _ _ _ _ (pv 1) (@aj _ _ _ _ _ (pv 5) ag rfl) rfl)))))),?_⟩
  refine⟨_,rfl,_,rfl,_,rfl,_,rfl,r,p,many,most,rfl,hR,hp,m0,by omega,n0,by omega,λD ys ts H1 hD e1 t1 l1 g1 R1 GS=>?_⟩
  have l4:ts.length<=4:=by omega
  have gw:∀t∈ts,Gn p 192 t.2/\t.1.Pairwise (· < ·)/\(∀k∈t.1,0<=k/\k<many)/\t.1.length<=60:=λt ht=>by
   obtain⟨a,b,c,d⟩:=g1 t ht;exact⟨⟨a.1,a.2.1.mono (by decide),a.2.2.mono (by decide)⟩,b,c,d⟩
  rcases hy with rfl|⟨fa,bs,rfl,LD,lb⟩
  ·refine⟨_,rfl,rfl,_,rfl,?_⟩;refine bD ?_;have GD:DQ p many ts:=⟨by omega,gw⟩;refine⟨_,rfl,_,rfl,D,p,ys,ts,rfl,hp,e1,t1,GD.gth hp,λH2 L zs s2 eL tL=>?_⟩;exact q L zs ts H2 eL tL GD (R1.same s2) λb u e nb=>s2 _ _ (GS _ _ e nb)
  ·have k1:aG H H1:=hR.aaD GS;refine⟨_,rfl,rfl,_,rfl,?_⟩;refine aW ?_
   have wg:Gn p 191 (aU p bs ts):=by
    obtain⟨a,b,c⟩:=hZ (bs:=bs) hp ts.length ts rfl λt ht=>(g1 t ht).1;exact⟨a,b.mono (by omega),c.mono (by omega)⟩
   refine⟨_,rfl,_,rfl,_,rfl,D,fa,p,ys,ts,bs,45,rfl,hp,e1,t1,k1 _ _ LD,by omega,λt ht=>⟨(g1 t ht).1,by have:=(g1 t ht).2.2.2;omega,λk hk=>by have:=(g1 t ht).2.2.1 k hk;omega⟩,by omega,by decide,λH2 aw s2 ew=>?_⟩;refine⟨_,rfl,.inl ⟨rfl,_,ba.of (s2 _ _ e1)⟩,?_⟩;refine⟨Nat.zero_le _,λt0 IP=>?_⟩;have s3:=s2.trans (aq (o:=.tup []) IP);have e3:upd H2 t0 (.tup []) t0=some (.tup []):=ae;have w3:=aq (o:=.tup []) IP _ _ ew;generalize upd H2 t0 (.tup [])=H3 at s3 e3 w3 |-;refine⟨_,rfl,_,_,rfl,rfl,ic,λt2 Ub=>?_⟩;have s4:=s3.trans (aq (o:=.tup [.int (0-1),.int 1]) Ub);have e4:=aq (o:=.tup [.int (0-1),.int 1]) Ub _ _ e3;have w4:=aq (o:=.tup [.int (0-1),.int 1]) Ub _ _ w3;have n4:upd H3 t2 (.tup [.int (0-1),.int 1]) t2=some (cA (0-1) 1):=ae;generalize upd H3 t2 (.tup [.int (0-1),.int 1])=H4 at s4 e4 w4 n4 |-;have wp:=wg.1.pos;refine⟨_,rfl,p,0-1,1,(aU p bs ts).1,(aU p bs ts).2,t2,aw,rfl,hp,n4,w4,by unfold B;exact Nat.lt_of_lt_of_le (by decide:(1:Nat)<2^1) (Nat.pow_le_pow_right (by decide) (by decide)),by unfold B;exact Nat.lt_of_lt_of_le (by decide:(1:Nat)<2^1) (Nat.pow_le_pow_right (by decide) (by decide)),wg.2.1.mono (by decide),wg.2.2.mono (by decide),by decide,by omega,λz=>by rw[(wg.1.pr z).1];rfl,λH5 an s5 e5=>?_⟩;refine⟨ic,λtu RH=>?_⟩;have s6:=s4.trans (s5.trans (aq (o:=.tup [.ref t0,.ref an]) RH));have sU:=aq (o:=.tup [.ref t0,.ref an]) RH;have MG:=s6 _ _ e1;refine⟨D,ys,.ref tu,rfl,rfl,MG,?_,?_⟩
   ·rw[t1.length];exact Nat.lt_of_le_of_lt l4 (by decide)
   have et:upd H5 tu (.tup [.ref t0,.ref an]) tu=some (.tup [.ref t0,.ref an]):=ae;have e6:=sU _ _ (s5 _ _ e4);have n6:=sU _ _ e5;generalize upd H5 tu (.tup [.ref t0,.ref an])=H6 at s6 sU MG et e6 n6 |-
   have kD:aG H6 (upd H6 D (.lst (ys++[.ref tu]))):=aG.upd λxs z=>by rw[MG] at z;cases z
   have Iy:D≠r:=by
    obtain⟨l,x,e,_⟩:=hR;exact Ne.symm (ar e hD)
   have R6:aE (upd H6 D (.lst (ys++[.ref tu]))) r:=by
    obtain⟨l,x,e,z⟩:=R1.same s6;exact⟨l,x,by rw[ai (Ne.symm Iy)];exact e,z⟩
   have XQ:SameBut r H (upd H6 D (.lst (ys++[.ref tu]))):=λb u e nb=>by
    rw[ai (ar e hD)];exact s6 _ _ (GS _ _ e nb)
   have xg:Gn p 192 (fQ p (eG (0-1) 1 (aU p bs ts).1 (aU p bs ts).2) (1*(aU p bs ts).2),fO p (eG (0-1) 1 (aU p bs ts).1 (aU p bs ts).2) (1*(aU p bs ts).2)):=by
    have nz:1*(aU p bs ts).2≠0:=by omega
    have bt:B 192 (eG (0-1) 1 (aU p bs ts).1 (aU p bs ts).2):=by
     refine(wg.2.1.mono (by decide:191<=192)).le ?_;unfold eG;rw[Int.natAbs_mul];show 1*_<=_;omega
    have bb:B 192 (1*(aU p bs ts).2):=by rw[Int.one_mul];exact wg.2.2.mono (by decide)
    exact⟨Num.set hp.nn nz,wJ hp bt nz (by decide),wG bb nz (by decide)⟩
   have lr:DQ p many (ts++[([],fQ p (eG (0-1) 1 (aU p bs ts).1 (aU p bs ts).2) (1*(aU p bs ts).2),fO p (eG (0-1) 1 (aU p bs ts).1 (aU p bs ts).2) (1*(aU p bs ts).2))]):=⟨by rw[List.length_append];show ts.length+1<=5;omega,λt ht=>by
    rcases List.mem_append.mp ht with ht|ht
    ·exact gw t ht
    ·cases List.mem_singleton.mp ht
     exact⟨xg,.nil,λk hk=>(nomatch hk),Nat.zero_le _⟩⟩
   have tr:=Paired.snoc (bZ.keep t1 ((aG.of s6).trans kD)) (show Bt (upd H6 D (.lst (ys++[.ref tu]))) (.ref tu) ([],fQ p (eG (0-1) 1 (aU p bs ts).1 (aU p bs ts).2) (1*(aU p bs ts).2),fO p (eG (0-1) 1 (aU p bs ts).1 (aU p bs ts).2) (1*(aU p bs ts).2)) from⟨tu,t0,an,rfl,kD _ _ et,kD _ _ e6,kD _ _ n6⟩);have eL:upd H6 D (.lst (ys++[.ref tu])) D=some (.lst (ys++[.ref tu])):=ae;generalize upd H6 D (.lst (ys++[.ref tu]))=H7 at kD R6 XQ tr eL |-;refine⟨_,rfl,_,rfl,D,p,_,_,rfl,hp,eL,tr,lr.gth hp,λH8 L zs s8 eL8 tL=>?_⟩;exact q L zs _ H8 eL8 tL lr (R6.same s8) λb u e nb=>s8 _ _ (XQ _ _ e nb)
theorem xD {d:List Tm}{t e:Tm}(h:e∈fR p d t):(∃x∈d,e.1=x.1)\/e.1=t.1:=by
 unfold fR at h
 split at h
 ·obtain⟨x,hx,rfl⟩:=List.mem_map.mp h;refine .inl ⟨x,hx,?_⟩
  split <;> rfl
 ·rcases List.mem_append.mp h with h|h
  ·exact .inl ⟨e,h,rfl⟩
  ·have:e=t:=by simpa using h
   exact .inr (by rw[this])
theorem oR :∀(ts d:List Tm)(e:Tm),e∈ts.foldl (fR p) d->(∃x∈d,e.1=x.1)\/∃x∈ts,e.1=x.1
 |[],d,e,h=>.inl ⟨e,h,rfl⟩
 |t::ts,d,e,h=>by
  rcases oR ts (fR p d t) e h with⟨x,hx,ex⟩|⟨x,hx,ex⟩
  ·rcases xD hx with⟨y,hy,ey⟩|ey
   ·exact .inl ⟨y,hy,ex.trans ey⟩
   ·exact .inr ⟨t,List.mem_cons_self,ex.trans ey⟩
  ·exact .inr ⟨x,List.mem_cons_of_mem _ hx,ex⟩
noncomputable abbrev D4:Stmt:=(aJ 87)
theorem AU:yd ["_law_room_here","_law_many","_law_most","_law_planted","_law_rows"] Bh (ak D4):=c9 (by decide +kernel)
theorem nt {t:Tm}(h:t∈tg p raw):∃x∈raw,t.1=x.1:=by
 rcases oR raw [] t (List.mem_filter.mp ((dI _).mem_iff.mp h)).1 with⟨x,hx,_⟩|⟨x,hx,e⟩
 ·exact nomatch hx
 ·exact⟨x,hx,e⟩
theorem zK (hp:FP p)(h:∀t∈raw,Gn p 45 t.2):(tg p raw).length<=raw.length:=by
 rw[(dI (aY p raw)).length_eq];exact Nat.le_trans (List.length_filter_le _ _) (c6 (m:=45) hp raw.length raw rfl h).2.2
theorem C6 (hp:FP p)(hl:raw.length<=4)(h:∀t∈raw,Gn p 45 t.2):∀t∈tg p raw,Gn p 191 t.2:=λt ht=>by
 have:=(c6 (m:=45) hp raw.length raw rfl h).1 t (List.mem_filter.mp ((dI _).mem_iff.mp ht)).1;exact⟨this.1,this.2.1.mono (by omega),this.2.2.mono (by omega)⟩
noncomputable def AC (t:Tm):Tm:=(t.1,(0-t.2.1,t.2.2))
noncomputable def Dj (many:Int)(us:List Tm):Prop:=∃raw:List Tm,DQ 0 many raw/\(us=tg 0 raw\/us=(tg 0 raw).map AC)
noncomputable def lH:Sp:=λvs H Q _=>∃(r:Addr)(many most:Int)(y:V),vs=[.ref r,.int many,.int most,y]/\aE H r/\0<=many/\many<=60/\0<=most/\most<=4/\zE H y many /\
 ∀(L:Addr)(ys:List V)(us:List Tm)(H':Hp),H' L=some (.lst ys)->bZ H' ys us->Dj many us->aE H' r->SameBut r H H'->Q (.ref L) H'
theorem Cr {LF IV LG:Addr}{IW HI IX:vH}(F:xR K "_law_upper" "_law_upper" D4 f fd)
 (TU:Ef P w K mg base (aO P w) 3 LF IW FK kI)(TV:L2.az K IW FK [])(TY:mg "_law_terms"=some (.ref LF))(TZ:keepIn K (.ref LF)=true)
 (T3:Ef P w K mg base (aO P w) 4 IV HI pE vR)(T4:L2.az K HI pE [])(T5:mg "_law_worth"=some (.ref IV))(T6:keepIn K (.ref IV)=true)
 (T7:Ef P w K mg base (aO P w) 4 LG IX Fv jT)(T8:L2.az K IX Fv [])(T9:mg "_law_gather"=some (.ref LG))(Ua:keepIn K (.ref LG)=true):
 Ef P w K mg base (aO P w) 5 f fd Bh lH:=by
 refine F.okN AU (λvs H Q E h=>?_) (λFV A outer s H vs Q E hr h=>?_)
 ·obtain⟨r,many,most,y,rfl,_⟩:=h;rfl
 ·obtain⟨r,many,most,y,rfl,hR,m0,m1,n0,n1,hy,q⟩:=h;have G5:Fq 3 _:=hr.mono (by decide);have Ii:Fq 4 _:=hr.mono (by decide);have hp:FP 0:=.inl rfl
  refine⟨_,(ao (@aM _ _ 4 _ _ _ _ AU.nd rfl (Or.inl rfl) (av T7 Ii (by rfl) T9 Ua T8 .nil af (@aj _ _ _ _ _ ah (@aj _ _ _ _ _ (av TU G5 (by rfl) TY TZ TV .nil af (@aj _ _ _ _ _ (pv 0) (@aj _ _ _ _ _ ah (@aj _ _ _ _ _ (pv 1) (@aj _ _ _ _ _ (pv 2) ag rfl) rfl) rfl) rfl)) ag rfl) rfl)) rfl (Or.inl rfl))
   (ao (bc (PW.pt (vg (@aI _ _ _ _ _ _ _ _ rV (pv 3) fV (aK _)) (su (@aI _ _ _ _ _ _ _ _ jE (@bo _ _ _ _ _ _ _ bK (av T3 Ii (by rfl) T5 T6 T4 .nil af (@aj _ _ _ _ _ ah (@aj _ _ _ _ _ (pv 4) (@aj _ _ _ _ _ (pv 3) ag rfl) rfl) rfl)) ah (λ_ _=>rfl)) ah (aK _))))) (au (iH (i:=4) (g:=(gD K 2 (bX (aZ 0) (bX (aZ 1) DH)))) (N:=["_law_product_here","_law_number_here"]) (nl:=2) (js:=[]) (osc:=ak D4) ⟨rfl,rfl,by decide +kernel,by decide +kernel,by decide +kernel,rfl,.nil,by decide +kernel⟩ rfl AU.nd rfl (Or.inl rfl)
    (cE (pv 4))
    (λCq fq sq Hq=>(cf (X:=bQ _ ["_law_product_here","_law_number_here"] _ Cq fq sq Hq) rfl (aC (aA (X:=bQ _ ["_law_product_here","_law_number_here"] _ Cq fq sq Hq) (i:=0) (by show(["_law_product_here","_law_number_here"]:nO).Nodup;decide +kernel) rfl (Or.inl rfl) (Or.inr rfl)) (aC (aA (X:=bQ _ ["_law_product_here","_law_number_here"] _ Cq fq sq Hq) (i:=1) (by show(["_law_product_here","_law_number_here"]:nO).Nodup;decide +kernel) rfl (Or.inl rfl) (Or.inr rfl)) bH))))
    (λCq fq sq Hq=>ck)
    (λCq fq sq Hq=>(@bO _ _ _ _ _ (@aj _ _ _ _ _ (pv 0) (@aj _ _ _ _ _ (@bO _ _ _ _ _ (@aj _ _ _ _ _ (@aH _ _ _ _ _ _ _ _ gU ah (@bo _ _ _ _ _ _ _ (zh (K:=K) rfl) (pv 1) ah (λ_ _=>rfl))) (@aj _ _ _ _ _ (@bo _ _ _ _ _ _ _ (zh (K:=K) rfl) (pv 1) ah (λ_ _=>rfl)) ag rfl) rfl)) ag rfl) rfl))) (by rfl))) aF)
   (au (ay (pv 4))))),?_⟩
  refine⟨_,rfl,_,rfl,_,rfl,r,0,many,most,rfl,hR,hp,m0,by omega,n0,by omega,λD ys ts H1 hD e1 t1 l1 g1 R1 GS=>?_⟩
  have l4:ts.length<=4:=by omega
  have lv:DQ 0 many ts:=⟨by omega,λt ht=>by
   obtain⟨a,b,c,d⟩:=g1 t ht
   exact⟨⟨a.1,a.2.1.mono (by decide),a.2.2.mono (by decide)⟩,b,c,d⟩⟩
  refine⟨D,0,ys,ts,rfl,hp,e1,t1,lv.gth hp,λH2 L zs s2 eL tL=>?_⟩;have GU:SameBut r H H2:=λb u e nb=>s2 _ _ (GS _ _ e nb);have R2:=R1.same s2
  rcases hy with rfl|⟨fa,bs,rfl,LD,lb⟩
  ·refine⟨_,rfl,rfl,_,rfl,?_⟩;exact bD (bD ⟨_,rfl,q L zs (tg 0 ts) H2 eL tL ⟨ts,lv,.inl rfl⟩ R2 GU⟩)
  ·refine⟨_,rfl,rfl,_,rfl,?_⟩;refine aW ?_;have k2:aG H H2:=hR.aaD GU;have zl:=tL.length;have tl:(tg 0 ts).length<=4:=Nat.le_trans (zK hp λt ht=>(g1 t ht).1) l4;have tgn:=C6 hp l4 λt ht=>(g1 t ht).1;refine⟨_,rfl,_,rfl,L,fa,0,zs,tg 0 ts,bs,191,rfl,hp,eL,tL,k2 _ _ LD,by omega,λt ht=>⟨tgn t ht,?_,λk hk=>?_⟩,by omega,by decide,λH3 aw s3 ew=>?_⟩
   ·obtain⟨x,hx,e⟩:=nt ht;rw[e];have:=(g1 x hx).2.2.2;omega
   ·obtain⟨x,hx,e⟩:=nt ht;rw[e] at hk;have:=(g1 x hx).2.2.1 k hk;omega
   have Jq:SameBut r H H3:=λb u e nb=>s3 _ _ (GU _ _ e nb);refine⟨aw,_,0,_,rfl,rfl,bx.of ew,a0 _ _,_,_,rfl,rfl,_,rfl,?_⟩;refine cp (λ_=>?_) (λ_=>?_)
   ·refine⟨_,rfl,L,rfl,⟨_,ba.of (s3 _ _ eL)⟩,?_⟩;refine tX (a:=L) (xs:=zs) (rest:=[]) (λi us H'=>ax H3 H'/\bZ H' us (((tg 0 ts).map AC).take i)) ⟨ax.refl _,.nil⟩ (λi us H' hi NZ=>?_) (λi x us H' hi ex NZ=>?_) (λus H' NZ=>?_)
    ·obtain⟨sH,hx⟩:=NZ;refine⟨?_,ba.of (sH _ _ (s3 _ _ eL))⟩;rw[hx.length,List.length_take,List.length_map];exact Nat.lt_of_le_of_lt (Nat.min_le_right _ _) (Nat.lt_of_le_of_lt tl (by decide))
    ·obtain⟨sH,hx⟩:=NZ;obtain⟨t,et,a,pr,nu,rfl,ha,GV,HY⟩:=cn (bZ.keep tL (aG.of (s3.trans sH))) ex;refine⟨a,_,_,rfl,bx.of ha,λN hN=>Ed ?_⟩;refine⟨_,rfl,_,rfl,nu,_,0,_,rfl,rfl,bx.of HY,a0 _ _,_,_,rfl,rfl,_,rfl,nu,_,1,_,rfl,rfl,bx.of HY,a1 _ _,ic,λT1 hT1=>⟨ic,λT2 XR=>?_⟩⟩;have s6:=(aq (o:=.tup [.int (0-t.2.1),.int t.2.2]) hT1).trans (aq (o:=.tup [.ref pr,.ref T1]) XR);refine hN _ _ ⟨sH.trans s6,?_⟩;rw[List.take_add_one,List.getElem?_map,et];exact Paired.snoc (bZ.keep hx (aG.of s6)) ⟨T2,pr,T1,rfl,ae,s6 _ _ GV,aq XR _ _ ae⟩
    ·obtain⟨sH,hx⟩:=NZ;intro L2 JL;rw[zl,<-List.length_map (f:=AC),List.take_length] at hx;have s7:=s3.trans (sH.trans (aq (o:=.lst us) JL));exact⟨_,rfl,q L2 us _ _ ae (bZ.keep hx (aG.of (aq JL))) ⟨ts,lv,.inr rfl⟩ (R2.same s7) λb u e nb=>s7 _ _ (GU _ _ e nb)⟩
   ·exact⟨_,rfl,q L zs (tg 0 ts) H3 (s3 _ _ eL) (bZ.keep tL (aG.of s3)) ⟨ts,lv,.inl rfl⟩ (R2.same s3) Jq⟩
theorem rg {i:Nat}{v:V}{σ:St}{A B:St->Hp->Prop}(h:A (σ.set i (some v)) H):aZ i v σ H λσ3 H3=>BX σ3 H3 λb H4=>if b=true then A σ3 H4 else B σ3 H4:=h
noncomputable abbrev Di:Stmt:=(aJ 88)
theorem uL:yd ["_law_room_here","_law_prime_here","_law_many","_law_most","_law_planted","_law_noughts","_law_uppers"] FK (ak Di):=c9 (by decide +kernel)
noncomputable def AK (H:Hp)(y:V)(ts:List Tm):Prop:=∃l zs,y=.ref l/\H l=some (.lst zs)/\bZ H zs ts
noncomputable abbrev jq (H:Hp):List V->List (List Tm)->Prop:=Paired (AK H)
variable {y:V}{ts:List Tm}
theorem AK.same (h:AK H y ts)(s:ax H H'):AK H' y ts:=let⟨l,zs,e,a,b⟩:=h;⟨l,zs,e,s _ _ a,bZ.keep b (aG.of s)⟩
variable {ys:List V}
theorem jq.same {N0:List (List Tm)}(h:jq H ys N0)(s:ax H H'):jq H' ys N0:=Paired.aa0 h λ_ _ z=>z.same s
theorem AK.but (h:AK H y ts)(R:aE H r)(S:SameBut r H H'):AK H' y ts:=by
 obtain⟨l,zs,e,a,b⟩:=h;refine⟨l,zs,e,S _ _ a λz=>?_,bZ.keep b (R.aaD S)⟩;obtain⟨u,x,er,_⟩:=R;rw[z,er] at a
 cases a
 cases b with
 |cons q _ =>
  obtain⟨_,_,_,z,_⟩:=q
  cases z
theorem jq.but {N0:List (List Tm)}(h:jq H ys N0)(R:aE H r)(S:SameBut r H H'):jq H' ys N0:=Paired.aa0 h λ_ _ z=>z.but R S
theorem zE.keep (h:zE H y many)(k:aG H H'):zE H' y many:=by
 rcases h with h|⟨a,bs,e,h,l⟩
 ·exact .inl h
 ·exact .inr ⟨a,bs,e,k _ _ h,l⟩
structure Drawn (p many:Int)(H:Hp)(T LN LU:Addr)(Gh GQ:List (List Tm)):Prop where
 t:H T=some (.tup [.ref LN,.ref LU])
 n:∃ns,H LN=some (.lst ns)/\jq H ns (Gh.map (tg p))
 u:∃us,H LU=some (.lst us)/\jq H us GQ
 lv:∀raw∈Gh,DQ p many raw
 up:∀u∈GQ,Dj many u
 l1:Gh.length<=10
 l2:GQ.length<=2
 p0:p≠0->GQ=[]
noncomputable def Bg:Sp:=λvs H Q _=>∃(r:Addr)(p many most:Int),vs=[.ref r,.int p,.int many,.int most]/\aE H r/\FP p/\0<=many/\many<=60/\0<=most/\most<=10 /\
 ∀(T LN LU:Addr)(Gh GQ:List (List Tm))(H':Hp),Drawn p many H' T LN LU Gh GQ->aE H' r->SameBut r H H'->Q (.ref T) H'
noncomputable abbrev Dg:XK:=λ_ _ _=>False
noncomputable abbrev wo:TE:=sI (wj (aQ (gH Eb [] Dg (aQ (cC 0) (aQ (jB (pD λi j=>V.int (i+j)) (cC 3) (tC (V.int 1))) tW))) tW)) (aZ 0) BX
 (gH vq [] Dg (aQ (cC 1) (aQ (cC 2) (aQ (cC 3) (aQ (tC (V.int 4)) (aQ (cC 4) tW)))))) 1 [0,1,2,4]
noncomputable abbrev w9:TE:=sI (wj (aQ (gH Eb [] Dg (aQ (cC 0) (aQ (tC (V.int 3)) tW))) tW)) (aZ 0) BX
 (gH lH [] Dg (aQ (cC 1) (aQ (cC 2) (aQ (tC (V.int 3)) (aQ (cC 3) tW))))) 1 [0,2,4]
theorem zd {most:Int}{o5 o6:Option V}{F:VK}(hR:aE H r)(hp:FP p)(m0:0<=many)(m1:many<=60)(n0:0<=most)(n1:most<=10)(hy:zE H y many)
 (q:∀(H':Hp)(D:Addr)(ns:List V)(Gh:List (List Tm)),H D=none->H' D=some (.lst ns)->jq H' ns (Gh.map (tg p))->(∀raw∈Gh,DQ p many raw)->Gh.length<=10->aE H' r->SameBut r H H'->F (.ref D) H'):
 wo [some (.ref r),some (.int p),some (.int many),some (.int most),some y,o5,o6] H F:=by
 have HM:=hR;obtain⟨l0,x0,Kx,N1,N2⟩:=HM;refine⟨_,rfl,_,rfl,_,_,rfl,rfl,r,l0,x0,most+1,rfl,Kx,N1,N2,by omega,by omega,λz l1 x1 z0 z1 b0 b1=>?_⟩;have R1:aE (upd H r (.lst [.int l1,.int x1])) r:=⟨l1,x1,ae,b0,b1⟩;have GS:SameBut r H (upd H r (.lst [.int l1,.int x1])):=SameBut.upd;generalize upd H r (.lst [.int l1,.int x1])=H1 at R1 GS |-;refine⟨z,rfl,by omega,by omega,?_⟩
 refine⟨λi m xs σ' H'=>m=z.toNat-i/\i<=z.toNat/\aE H' r/\SameBut r H H'/\(∃Gh:List (List Tm),jq H' xs (Gh.map (tg p))/\Gh.length=i/\∀raw∈Gh,DQ p many raw)/\∃o,σ'=[o,some (.ref r),some (.int p),some (.int many),some y],
  ⟨z.toNat,by simp,Nat.zero_le _,R1,GS,⟨[],.nil,rfl,λt h=>(nomatch h)⟩,none,rfl⟩,?_⟩
 rintro i m xs σ' H2 ⟨rfl,hi,R2,GU,⟨Gh,hx,rl,rv⟩,o,rfl⟩;refine⟨by rw[hx.length,List.length_map,rl];exact Nat.lt_of_le_of_lt (show i<=10 by omega) (by decide),?_⟩
 by_cases FY:i<z.toNat
 ·refine .inr ⟨FY,λv H3 hv=>?_⟩;obtain⟨rfl,rfl⟩:=hv;refine rg ?_;refine⟨_,rfl,_,rfl,_,rfl,_,rfl,r,p,many,4,y,rfl,R2,hp,m0,m1,by decide,by decide,hy.keep (hR.aaD GU),λL ys raw H4 eL tL lv R4 IU=>?_⟩;refine⟨z.toNat-(i+1),by omega,rfl,FY,R4,λb u e nb=>IU _ _ (GU _ _ e nb) nb,⟨Gh++[raw],?_,by simp[rl],λt h=>?_⟩,_,rfl⟩
  ·rw[List.map_append];exact Paired.snoc (hx.but R2 IU) ⟨L,ys,rfl,eL,tL⟩
  ·rcases List.mem_append.mp h with h|h
   ·exact rv t h
   ·have:t=raw:=by simpa using h
    subst this;exact lv
 ·refine .inl ⟨by show z.toNat<=i;omega,λD hD=>?_⟩
  have Iy:r≠D:=by
   obtain⟨l,x,e,_⟩:=R2;exact ar e hD
  have HD:H D=none:=by
   cases e:H D with
   |none=>rfl
   |some u=>rw[GU _ _ e (Ne.symm Iy)] at hD;cases hD
  exact q _ D xs Gh HD ae (hx.same (aq hD)) rv (by omega) (R2.same (aq hD)) λb u e nb=>aq hD _ _ (GU _ _ e nb)
theorem yh {o1 o3 o5 o6:Option V}{F:VK}(hR:aE H r)(m0:0<=many)(m1:many<=60)(hy:zE H y many)
 (q:∀(H':Hp)(D:Addr)(us:List V)(GQ:List (List Tm)),H D=none->H' D=some (.lst us)->jq H' us GQ->(∀u∈GQ,Dj many u)->GQ.length<=2->aE H' r->SameBut r H H'->F (.ref D) H'):
 w9 [some (.ref r),o1,some (.int many),o3,some y,o5,o6] H F:=by
 have HM:=hR;obtain⟨l0,x0,Kx,N1,N2⟩:=HM;refine⟨_,rfl,r,l0,x0,3,rfl,Kx,N1,N2,by decide,by decide,λz l1 x1 z0 z1 b0 b1=>?_⟩;have R1:aE (upd H r (.lst [.int l1,.int x1])) r:=⟨l1,x1,ae,b0,b1⟩;have GS:SameBut r H (upd H r (.lst [.int l1,.int x1])):=SameBut.upd;generalize upd H r (.lst [.int l1,.int x1])=H1 at R1 GS |-;refine⟨z,rfl,by omega,by omega,?_⟩
 refine⟨λi m xs σ' H'=>m=z.toNat-i/\i<=z.toNat/\aE H' r/\SameBut r H H'/\(∃GQ:List (List Tm),jq H' xs GQ/\GQ.length=i/\∀u∈GQ,Dj many u)/\∃o,σ'=[o,some (.ref r),some (.int many),some y],
  ⟨z.toNat,by simp,Nat.zero_le _,R1,GS,⟨[],.nil,rfl,λt h=>(nomatch h)⟩,none,rfl⟩,?_⟩
 rintro i m xs σ' H2 ⟨rfl,hi,R2,GU,⟨GQ,hx,rl,rv⟩,o,rfl⟩;refine⟨by rw[hx.length,rl];exact Nat.lt_of_le_of_lt (show i<=10 by omega) (by decide),?_⟩
 by_cases FY:i<z.toNat
 ·refine .inr ⟨FY,λv H3 hv=>?_⟩;obtain⟨rfl,rfl⟩:=hv;refine rg ?_;refine⟨_,rfl,_,rfl,_,rfl,r,many,3,y,rfl,R2,m0,m1,by decide,by decide,hy.keep (hR.aaD GU),λL ys us H4 eL tL lv R4 IU=>?_⟩;refine⟨z.toNat-(i+1),by omega,rfl,FY,R4,λb u e nb=>IU _ _ (GU _ _ e nb) nb,⟨GQ++[us],Paired.snoc (hx.but R2 IU) ⟨L,ys,rfl,eL,tL⟩,by simp[rl],λt h=>?_⟩,_,rfl⟩
  rcases List.mem_append.mp h with h|h
  ·exact rv t h
  ·have:t=us:=by simpa using h
   subst this;exact lv
 ·refine .inl ⟨by show z.toNat<=i;omega,λD hD=>?_⟩
  have Iy:r≠D:=by
   obtain⟨l,x,e,_⟩:=R2;exact ar e hD
  have HD:H D=none:=by
   cases e:H D with
   |none=>rfl
   |some u=>rw[GU _ _ e (Ne.symm Iy)] at hD;cases hD
  exact q _ D xs GQ HD ae (hx.same (aq hD)) rv (by omega) (R2.same (aq hD)) λb u e nb=>aq hD _ _ (GU _ _ e nb)
theorem sG {most:Int}{Dn:Ends}(hR:aE H r)(hp:FP p)(m0:0<=many)(m1:many<=60)(n0:0<=most)(n1:most<=10)(hy:zE H y many)
 (q:∀(T LN LU:Addr)(Gh GQ:List (List Tm))(H':Hp),Drawn p many H' T LN LU Gh GQ->aE H' r->SameBut r H H'->Dn.rt (.ref T) H'):
 lF (iO wo (aZ 5)) (lF (iO (pW tW) (aZ 6)) (lF (Bq (rn (jB Bb (cC 1) (tC (V.int 0)))) (iO w9 (aZ 6)) AH) (Bn (yq (aQ (cC 5) (aQ (cC 6) tW)))))) Dn
  [some (.ref r),some (.int p),some (.int many),some (.int most),some y,none,none] H:=by
 unfold lF iO;refine zd hR hp m0 m1 n0 n1 hy λH1 LN ns Gh fN eN hN lN cN R1 GS=>?_
 have nN:LN≠r:=by
  obtain⟨l,x,e,_⟩:=hR;exact Ne.symm (ar e fN)
 refine⟨Nat.zero_le _,λL0 hL0=>?_⟩;have s2:=aq (o:=.lst []) hL0;have e2:upd H1 L0 (.lst []) L0=some (.lst []):=ae;generalize upd H1 L0 (.lst [])=H2 at s2 e2 |-;have R2:=R1.same s2;have GU:SameBut r H H2:=λb u e nb=>s2 _ _ (GS _ _ e nb);refine⟨_,rfl,rfl,_,rfl,?_⟩;refine cp (λhz=>?_) (λhz=>?_)
 ·have p0:p=0:=by
   have:=of_decide_eq_true hz
   cases this
   rfl
  refine yh (R2) m0 m1 (hy.keep (hR.aaD GU)) λH3 LU us GQ fU eU hU lU cU R3 Jq=>?_;refine⟨_,rfl,_,rfl,ic,λT hT=>?_⟩;have s4:=aq (o:=.tup [.ref LN,.ref LU]) hT;exact q T LN LU Gh GQ _ ⟨ae,⟨ns,s4 _ _ (Jq _ _ (s2 _ _ eN) nN),((hN.same s2).but R2 Jq).same s4⟩,⟨us,s4 _ _ eU,hU.same s4⟩,lN,lU,cN,cU,λz=>absurd p0 z⟩ (R3.same s4) λb u e nb=>s4 _ _ (Jq _ _ (GU _ _ e nb) nb)
 ·refine⟨_,rfl,_,rfl,ic,λT hT=>?_⟩;have s4:=aq (o:=.tup [.ref LN,.ref L0]) hT;exact q T LN L0 Gh [] _ ⟨ae,⟨ns,s4 _ _ (s2 _ _ eN),(hN.same s2).same s4⟩,⟨[],s4 _ _ e2,.nil⟩,lN,λu h=>(nomatch h),cN,by decide,λ_=>rfl⟩ (R2.same s4) λb u e nb=>s4 _ _ (GU _ _ e nb)
theorem Cm {ft Uc Ud Ue:Addr}{Ho N3 N4 N5:vH}(F:xR K "_law_wishes" "_law_wishes" Di f fd)(m_range:mg "range"=none)
 (FT:Ef P w K mg base (aO P w) 1 ft Ho zT Eb)(bT:L2.az K Ho zT [])(mT:mg "_law_take"=some (.ref ft))(kT:keepIn K (.ref ft)=true)
 (FFi:Ef P w K mg base (aO P w) 2 Uc N3 zT oQ)(bFi:L2.az K N3 zT [])(mFi:mg "_law_filling"=some (.ref Uc))(kFi:keepIn K (.ref Uc)=true)
 (FWI:Ef P w K mg base (aO P w) 5 Ud N4 BS vq)(bWI:L2.az K N4 BS [])(mWI:mg "_law_wish"=some (.ref Ud))(kWI:keepIn K (.ref Ud)=true)
 (FUP:Ef P w K mg base (aO P w) 5 Ue N5 Bh lH)(bUP:L2.az K N5 Bh [])(mUP:mg "_law_upper"=some (.ref Ue))(kUP:keepIn K (.ref Ue)=true):
 Ef P w K mg base (aO P w) 6 f fd FK Bg:=by
 refine F.okN uL (λvs H Q E h=>?_) (λFV A outer s H vs Q E hr h=>?_)
 ·obtain⟨r,p,many,most,rfl,_⟩:=h;rfl
 ·obtain⟨r,p,many,most,rfl,hR,hp,m0,m1,n0,n1,q⟩:=h;have Gb:Fq 1 _:=hr.mono (by decide);have Gz:Fq 2 _:=hr.mono (by decide);have JP:Fq 5 _:=hr
  refine⟨_,(ao (@aM _ _ 4 _ _ _ _ uL.nd rfl (Or.inr rfl) fV rfl (Or.inl rfl))
   (ao (bc (@aI _ _ _ _ _ _ _ _ du (av FT Gb (by rfl) mT kT bT .nil af (@aj _ _ _ _ _ (pv 0) (@aj _ _ _ _ _ ah ag rfl) rfl)) ah (aK _)) (au (@aM _ _ 4 _ _ _ _ uL.nd rfl (Or.inr rfl) (av FFi Gz (by rfl) mFi kFi bFi .nil af (@aj _ _ _ _ _ (pv 0) (@aj _ _ _ _ _ (pv 2) ag rfl) rfl)) rfl (Or.inl rfl))) aF)
   (ao (iH (i:=5) (N:=["_law_k","_law_room_here","_law_prime_here","_law_many","_law_planted"]) (nl:=1) (js:=[0,1,2,4]) (osc:=ak Di) ⟨rfl,rfl,by decide +kernel,by decide +kernel,by decide +kernel,rfl,(.cons ⟨rfl,by decide +kernel⟩ (.cons ⟨rfl,by decide +kernel⟩ (.cons ⟨rfl,by decide +kernel⟩ (.cons ⟨rfl,by decide +kernel⟩ .nil)))),by decide +kernel⟩ rfl uL.nd rfl (Or.inl rfl)
    (cX (by rfl) m_range (@aj _ _ _ _ _ (av FT Gb (by rfl) mT kT bT .nil af (@aj _ _ _ _ _ (pv 0) (@aj _ _ _ _ _ (@aH _ _ _ _ _ _ _ _ cV (pv 3) ah) ag rfl) rfl)) ag rfl))
    (λCq fq sq Hq=>aA (i:=0) (by show(["_law_k","_law_room_here","_law_prime_here","_law_many","_law_planted"]:nO).Nodup;decide +kernel) rfl (Or.inl rfl) (Or.inr rfl))
    (λCq fq sq Hq=>ck)
    (λCq fq sq Hq=>(av FWI JP (by rfl) mWI kWI bWI .nil af (@aj _ _ _ _ _ (pv 1) (@aj _ _ _ _ _ (pv 2) (@aj _ _ _ _ _ (pv 3) (@aj _ _ _ _ _ ah (@aj _ _ _ _ _ (pv 4) ag rfl) rfl) rfl) rfl) rfl))) (by rfl))
   (ao (@aM _ _ 6 _ _ _ _ uL.nd rfl (Or.inl rfl) (@cy _ _ _ _ ag) rfl (Or.inl rfl))
   (ao (bc (@aI _ _ _ _ _ _ _ _ du (pv 1) ah (aK _)) (au (iH (i:=6) (N:=["_law_k","_law_room_here","_law_many","_law_planted"]) (nl:=1) (js:=[0,2,4]) (osc:=ak Di) ⟨rfl,rfl,by decide +kernel,by decide +kernel,by decide +kernel,rfl,(.cons ⟨rfl,by decide +kernel⟩ (.cons ⟨rfl,by decide +kernel⟩ (.cons ⟨rfl,by decide +kernel⟩ .nil))),by decide +kernel⟩ rfl uL.nd rfl (Or.inl rfl)
    (cX (by rfl) m_range (@aj _ _ _ _ _ (av FT Gb (by rfl) mT kT bT .nil af (@aj _ _ _ _ _ (pv 0) (@aj _ _ _ _ _ ah ag rfl) rfl)) ag rfl))
    (λCq fq sq Hq=>aA (i:=0) (by show(["_law_k","_law_room_here","_law_many","_law_planted"]:nO).Nodup;decide +kernel) rfl (Or.inl rfl) (Or.inr rfl))
    (λCq fq sq Hq=>ck)
    (λCq fq sq Hq=>(av FUP JP (by rfl) mUP kUP bUP .nil af (@aj _ _ _ _ _ (pv 1) (@aj _ _ _ _ _ (pv 2) (@aj _ _ _ _ _ ah (@aj _ _ _ _ _ (pv 3) ag rfl) rfl) rfl) rfl))) (by rfl))) aF)
   (au (ay (@bO _ _ _ _ _ (@aj _ _ _ _ _ (pv 5) (@aj _ _ _ _ _ (pv 6) ag rfl) rfl))))))))),?_⟩
  obtain⟨l0,x0,Kx,N1,N2⟩:=hR;refine⟨_,rfl,r,l0,x0,2,rfl,Kx,N1,N2,by decide,by decide,λz l1 x1 z0 z1 b0 b1=>?_⟩;have R1:aE (upd H r (.lst [.int l1,.int x1])) r:=⟨l1,x1,ae,b0,b1⟩;have GS:SameBut r H (upd H r (.lst [.int l1,.int x1])):=SameBut.upd;generalize upd H r (.lst [.int l1,.int x1])=H1 at R1 GS |-;refine⟨rfl,_,rfl,?_⟩;refine cp (λ_=>?_) (λ_=>?_)
  ·refine⟨_,rfl,_,rfl,r,many,rfl,R1,m0,by omega,λa ks H2 kb kl ea R2 GU=>?_⟩;exact sG R2 hp m0 m1 n0 n1 (.inr ⟨a,ks,rfl,ea,kl⟩) λT LN LU Gh GQ H' d R' HV=>q T LN LU Gh GQ H' d R' λb u e nb=>HV _ _ (GU _ _ (GS _ _ e nb) nb) nb
  ·exact sG R1 hp m0 m1 n0 n1 (.inl rfl) λT LN LU Gh GQ H' d R' HV=>q T LN LU Gh GQ H' d R' λb u e nb=>HV _ _ (GS _ _ e nb) nb
variable {s dx:Addr}
theorem mH {o u:HO}(h1:H s=none)(h2:H dx=none)(ne:dx≠s)(k:SameBut s (upd (upd H dx o) s u) H'):ax H H':=λb v e=>by
 have b1:b≠s:=ar e h1;have b2:b≠dx:=ar e h2;exact k b v (by rw[ai b1,ai b2];exact e) b1
theorem mj:∀(ns:List Int)(b:Int),∃m,Mx.jt (some b) ns=some m/\(m=b\/m∈ns)/\b<=m/\∀a∈ns,a<=m
 |[],b=>⟨b,rfl,.inl rfl,Int.le_refl _,λa h=>nomatch h⟩
 |n::ns,b=>by
  obtain⟨m,e,h1,h2,h3⟩:=mj ns (if n>b then n else b);refine⟨m,e,?_,?_,?_⟩
  ·rcases h1 with h1|h1
   ·by_cases h:n>b
    ·rw[if_pos h] at h1;exact .inr (by rw[h1];exact .head _)
    ·rw[if_neg h] at h1;exact .inl h1
   ·exact .inr (.tail _ h1)
  ·by_cases h:n>b
   ·rw[if_pos h] at h2;omega
   ·rw[if_neg h] at h2;exact h2
  ·intro a ha
   cases ha with
   |head =>
    by_cases h:n>b
    ·rw[if_pos h] at h2;exact h2
    ·rw[if_neg h] at h2;omega
   |tail _ ha=>exact h3 a ha
theorem vN (hm:0<=many)(h:∀t∈ts,∀k∈t.1,k<many):i6 ts<=many:=by
 unfold i6
 have hl:∀a∈(ts.filter λt=>!t.1.isEmpty).map gJ,a<=many:=by
  intro a ha;obtain⟨t,ht,rfl⟩:=List.mem_map.mp ha;obtain⟨h1,h2⟩:=List.mem_filter.mp ht
  have ne:t.1≠[]:=by intro z;rw[z] at h2;cases h2
  unfold gJ;have:=h t h1 (t.1.getLastD 0) (by rw[List.getLastD_eq_getLast?,List.getLast?_eq_some_getLast ne];exact List.getLast_mem ne);omega
 cases e:(ts.filter λt=>!t.1.isEmpty).map gJ with
 |nil=>exact hm
 |cons b ns =>
  rw[e] at hl;obtain⟨m,em,h1,_,_⟩:=mj ns b;have e':Mx.jt none (b::ns)=some m:=em;rw[e'];show m<=many
  rcases h1 with h1|h1
  ·rw[h1];exact hl b (.head _)
  ·exact hl m (.tail _ h1)
theorem kF {p:Int}:∀(ts d:List Tm),((d++ts).map (·.1)).Nodup->ts.foldl (fR p) d=d++ts
 |[],d,_=>by simp
 |t::ts,d,h=>by
  have e:fR p d t=d++[t]:=by
   unfold fR;rw[if_neg];intro z;obtain⟨x,hx,ex⟩:=List.any_eq_true.mp z;rw[List.map_append,List.nodup_append] at h;exact h.2.2 x.1 (List.mem_map_of_mem hx) t.1 (by simp) (by simpa using ex)
  rw[List.foldl_cons,e,kF ts (d++[t]) (by simpa using h)];simp
theorem fF (h:(ts.map (·.1)).Nodup):aY p ts=ts:=by
 have:=kF (p:=p) ts [] (by simpa using h);simpa[aY] using this
structure yp (p many:Int)(ts:List Tm):Prop where
 l:ts.length<=5
 g:∀t∈ts,Gn p 4000 t.2/\t.1.Pairwise (· < ·)/\(∀k∈t.1,0<=k/\k<many)/\t.1.length<=60
 n:(ts.map (·.1)).Nodup
theorem DQ.few (h:DQ p many raw)(hp:FP p):yp p many (tg p raw):=by
 obtain⟨g1,g2,g3⟩:=c6 (m:=192) hp raw.length raw rfl λt ht=>(h.t t ht).1;have l:=h.l;have pm:=dI (aY p raw);refine⟨?_,λt ht=>?_,?_⟩
 ·rw[pm.length_eq];exact Nat.le_trans (List.length_filter_le _ _) (Nat.le_trans g3 l)
 ·have m1:=(List.mem_filter.mp (pm.mem_iff.mp ht)).1;obtain⟨b1,b2,b3⟩:=g1 t m1;obtain⟨x,hx,ex⟩:=nt ht;obtain⟨_,c1,c2,c3⟩:=h.t x hx;rw[ex];exact⟨⟨b1,b2.mono (by omega),b3.mono (by omega)⟩,c1,c2,c3⟩
 ·refine((pm.map _).nodup_iff).mpr (g2.sublist (List.filter_sublist.map _))
theorem yp.gth (h:yp p many ts):BN p ts:=by
 have e:∀i,aY p (ts.take i)=ts.take i:=λi=>fF (h.n.sublist ((List.take_sublist _ _).map _));have l:=h.l;refine⟨by omega,λt ht=>(h.g t ht).1,λi hi=>?_,?_⟩
 ·rw[e i];exact λt ht=>(h.g t (List.mem_of_mem_take ht)).1
 ·rw[fF h.n];omega
noncomputable def Dq (C CF:Addr)(p many:Int)(H:Hp)(as:List Addr):Prop:=∀a∈as,WX C CF p many H (.ref a) true
variable {CF:Addr}{as:List Addr}
theorem Dq.same {C:Addr}(h:Dq C CF p many H as)(s:ax H H'):Dq C CF p many H' as:=λa ha=>(h a ha).aaz (.of s)
variable {fl:Addr}{x:V}{n:Int}
section
variable {K:PySem.W.Frag}{C CF CS CN:Addr}{H:Hp}{Q:Hp->Prop}{E:XK}
theorem BD {F6 l:Addr}(hf:H fl=some (.ins CF F6 (dR p)))(hp:FP p)(hl:H l=some (.lst ys))(ht:bZ H ys ts)(h0:0<=many)(hm:many<=60)(F:yp p many ts)
 {x:Addr}(h1:H x=none)(h2:H dx=none)(ne:dx≠x)(q:∀H',ax H H'->WX C CF p many H' (.ref x) true->Q H'):
 nj C CF [.ref x,.ref fl,.ref l] (upd (upd H dx (.own x)) x (.ins C dx [])) (λv H2=>v=.non/\Q H2) E:=by
 have hS:ax H (upd (upd H dx (.own x)) x (.ins C dx [])):=(aq h2).trans (aq (by rw[ai (Ne.symm ne)];exact h1));have M7:=F.l;refine⟨x,dx,fl,F6,p,.ref l,ts,rfl,ae,hS _ _ hf,hp,.inr ⟨l,ys,rfl,hS _ _ hl,bZ.keep ht (aG.of hS)⟩,F.gth,λt ht=>?_,λH' D zs k _ hs hD hz=>⟨rfl,?_⟩⟩
 ·obtain⟨_,c1,c2,c3⟩:=F.g t ht;exact Bd c1 (λk hk=>⟨(c2 k hk).1,by have:=(c2 k hk).2;omega⟩) (by omega)
 have sH:=mH h1 h2 ne k
 have mem:∀t∈fP (aY p ts),t∈ts:=λt ht=>by
  have:=(List.mem_filter.mp ((dI _).mem_iff.mp ht)).1;rw[fF F.n] at this;exact this
 have len:(fP (aY p ts)).length<=5:=by
  rw[(dI _).length_eq,fF F.n];exact Nat.le_trans (List.length_filter_le _ _) M7
 refine q H' sH ?_;have sw:SW C CF H' x p (fP (aY p ts)):=⟨⟨dx,fl,F6,D,zs,hs,sH _ _ hf,hD,hz⟩,hp,by omega,λt ht=>by have:=(F.g t (mem t ht)).2.2.2;omega⟩;have r:i6 (fP (aY p ts))<=many:=vN h0 λt ht k hk=>((F.g t (mem t ht)).2.2.1 k hk).2;have:=WX.sum (p:=p) (n:=many) sw;rw[decide_eq_true rfl,decide_eq_true r] at this;exact this
theorem Fo (r:Rt C CF p n H x fl as)(h1:H s=none)(h2:H dx=none)(ne:dx≠s)(q:∀H',ax H H'->A4 CS CF H' s fl p n as []->Q H'):
 Ac CS C CF [.ref s,.ref fl,.int n,x,.non] (upd (upd H dx (.own s)) s (.ins CS dx [])) (λv H2=>v=.non/\Q H2) E:=by
 have hS:ax H (upd (upd H dx (.own s)) s (.ins CS dx [])):=(aq h2).trans (aq (by rw[ai (Ne.symm ne)];exact h1));refine⟨s,dx,fl,x,p,n,as,rfl,ae,r.aaz (.of hS),λH' A B k _ _ _ hs hA hB=>⟨rfl,?_⟩⟩;have sH:=mH h1 h2 ne k;obtain⟨F6,hf⟩:=r.f;exact q H' sH ⟨⟨dx,F6,A,B,hs,sH _ _ hf,hA,hB⟩,r.l.len,Nat.zero_le _⟩
end
inductive DO (H:Hp):V->String->PyData->Prop where
 |non:DO H .non "NoneType" .none
 |bl (b:Bool):DO H (.bl b) "bool" (.bool b)
 |int {i:Int}(h:B 200 i):DO H (.int i) "int" (.int i)
 |str:DO H (.str "3") "str" (.str "3")
 |abv:DO H (.str "x") "str" (.str "x")
 |tup {a:Addr}(e:H a=some (.tup [.int 2])):DO H (.ref a) "tuple" (.tuple [.int 2])
 |lst {a:Addr}(e:H a=some (.lst [])):DO H (.ref a) "list" (.list [])
 |dic {a:Addr}(e:H a=some (.dK [])):DO H (.ref a) "dict" (.dict [])
variable {T:String}{d:PyData}
theorem DO.th (h:DO H x T d):Th H x T:=by
 cases h with
 |non=>exact .non
 |bl b=>exact .bl b
 |int h=>exact .int _
 |str=>exact .str _
 |abv=>exact .str _
 |tup e=>exact .tup e
 |lst e=>exact .lst e
 |dic e=>exact .dK e
theorem DO.keep (h:DO H x T d)(k1:∀a,H a=some (.tup [.int 2])->H' a=some (.tup [.int 2]))(k2:∀a,H a=some (.lst [])->H' a=some (.lst []))(k3:∀a,H a=some (.dK [])->H' a=some (.dK [])):DO H' x T d:=by
 cases h with
 |non=>exact .non
 |bl b=>exact .bl b
 |int h=>exact .int h
 |str=>exact .str
 |abv=>exact .abv
 |tup e=>exact .tup (k1 _ e)
 |lst e=>exact .lst (k2 _ e)
 |dic e=>exact .dic (k3 _ e)
theorem DO.same (h:DO H x T d)(s:ax H H'):DO H' x T d:=h.keep (λ_ e=>s _ _ e) (λ_ e=>s _ _ e) λ_ e=>s _ _ e
theorem DO.but (h:DO H x T d)(R:aE H r)(s:SameBut r H H'):DO H' x T d:=by
 obtain⟨l,z,e0,_⟩:=R;refine h.keep (λa e=>s _ _ e λq=>?_) (λa e=>s _ _ e λq=>?_) λa e=>s _ _ e λq=>?_
 all_goals rw[q,e0] at e;cases e
variable {K:Frag}
theorem DO.rd (h:DO H x T d):i3 K H d x:=by
 cases h with
 |non=>unfold i3;rfl
 |bl b=>unfold i3;rfl
 |int h=>unfold i3;rfl
 |str=>unfold i3;rfl
 |abv=>unfold i3;rfl
 |tup e =>
  unfold i3;refine⟨_,_,rfl,bx.of e,?_⟩;unfold iu;refine⟨_,_,rfl,?_,?_⟩
  ·unfold i3;rfl
  ·unfold iu;rfl
 |lst e =>
  unfold i3;refine⟨_,_,rfl,ba.of e,?_⟩;unfold iu;rfl
 |dic e =>
  unfold i3;exact⟨rfl,_,rfl,Rd.of e⟩
theorem DO.sm (h:DO H x T d):d.showable=true/\d.depth<=1/\wt d<=2000:=by
 cases h with
 |int h =>
  refine⟨?_,Nat.zero_le _,by show 1921<=2000;decide⟩;unfold PyData.showable;refine decide_eq_true ?_
  rename_i i
  by_cases z:i.natAbs=0
  ·rw[z];decide
  ·exact Nat.lt_trans ((Nat.log2_lt z).mpr h) (by decide)
 |non=>exact⟨rfl,by decide,by decide⟩
 |bl b=>exact⟨rfl,Nat.zero_le _,by show 5<=2000;decide⟩
 |str=>exact⟨rfl,by decide,by show(reprText "3").length<=2000;decide +kernel⟩
 |abv=>exact⟨rfl,by decide,by show(reprText "x").length<=2000;decide +kernel⟩
 |tup e=>exact⟨by decide,by decide,by decide⟩
 |lst e=>exact⟨rfl,by decide,by decide⟩
 |dic e=>exact⟨rfl,by decide,by decide⟩
theorem Tg.dg (h:Tg H y):∃T d,DO H y T d:=by
 cases h with
 |non=>exact⟨_,_,.non⟩
 |lst e=>exact⟨_,_,.lst e⟩
 |dic e=>exact⟨_,_,.dic e⟩
 |tup e=>exact⟨_,_,.tup e⟩
 |str=>exact⟨_,_,.abv⟩
 |int=>exact⟨_,_,.int (by unfold B;exact Nat.lt_of_lt_of_le (by decide:(7:Int).natAbs<2^5) (Nat.pow_le_pow_right (by decide) (by decide)))⟩
theorem rh {K:Frag}{L:Addr}{T1 T2:String}{d1 d2:PyData}(e:H L=some (.lst [x,y]))(h1:DO H x T1 d1)(h2:DO H y T2 d2):
 i3 K H (.list [d1,d2]) (.ref L)/\(PyData.list [d1,d2]).showable=true/\(PyData.list [d1,d2]).depth<=60/\wt (.list [d1,d2])<=16777216:=by
 obtain⟨a1,a2,a3⟩:=h1.sm;obtain⟨b1,b2,b3⟩:=h2.sm;refine⟨?_,?_,?_,?_⟩
 ·unfold i3;refine⟨_,_,rfl,ba.of e,?_⟩;unfold iu;refine⟨_,_,rfl,h1.rd,?_⟩;unfold iu;refine⟨_,_,rfl,h2.rd,?_⟩;unfold iu;rfl
 ·show PyData.showableAll [d1,d2]=true;simp[PyData.showableAll,a1,b1]
 ·simp[PyData.depth,PyData.depthAll];omega
 ·simp[wt,AA];omega
noncomputable abbrev gc:Stmt:=(aJ 92)
noncomputable abbrev NW:List Str:=["_law_script","_law_k","_law_room_here","_law_prime_here","_law_field","_law_many","_law_system","_law_degree","_law_way","_law_thing","_law_kept"]
theorem fL:yd NW ["_law_script"] (ak gc):=c9 (by decide +kernel)
noncomputable abbrev XL (P:zO)(w:World)(K:Frag)(mg:yN)(base:Heap)(fl:Addr)(FV:Value)(A:Around)(outer:List Env)(s:Fp)(H0:Hp)(E:XK):Cx:=(fk (aO P w) P w K mg base NW "law" (ak gc) fl FV A outer s H0 E).nox
noncomputable def zG (s:Stmt):List Stmt:=match s with
 | .For _ _ b _ _=>b
 |_=>[]
noncomputable def jf:List Stmt:=zG ((bF gc).getD 0 (.Pass ⟨0,0,0,0⟩))
noncomputable def zJ:Expr->Expr
 | .Compare (.Call _ (e::_) _ _) _ _ _=>e
 | .BoolOp _ (_ :: .Compare (.Call _ (e::_) _ _) _ _ _::_) _=>e
 |_=>.Name "" ⟨0,0,0,0⟩
noncomputable def Bk (s:Stmt):Expr:=match s with
 | .If t _ _ _=>t
 |_=>.Name "" ⟨0,0,0,0⟩
noncomputable abbrev wX:Expr:=zJ (Bk ((zG (jf.getD 7 (.Pass ⟨0,0,0,0⟩))).getD 2 (.Pass ⟨0,0,0,0⟩)))
noncomputable def lA (e:Expr):Scope:=match e with| .Lambda _ _ sc _=>sc|_=>ak gc
noncomputable def zx (e:Expr):Pos:=match e with| .Lambda _ _ _ p=>p|_=>⟨0,0,0,0⟩
noncomputable def qK (e:Expr):Expr:=match e with| .Lambda _ b _ _=>b|_=>.Name "" ⟨0,0,0,0⟩
noncomputable def vx (e:Expr):Arguments:=match e with| .Lambda ps _ _ _=>ps|_=>b9 gc
noncomputable abbrev Fs:Str:="law"++".<locals>."++"<lambda>"
noncomputable def Au:List Pos:=[zx wX]
theorem Bm:∀p∈Au,∀p'∈Au,((p.line:Int)=p'.line/\(p.col:Int)=p'.col)->p=p':=by decide +kernel
noncomputable abbrev ux (Pt:Addr)(H:Hp):Prop:=kj Au Fs Pt H
noncomputable def Kp (H H':Hp):Prop:=∀b o,H b=some o->(∀ps,o≠.tbl ps)->H' b=some o
theorem Kp.of (s:ax H H'):Kp H H':=λb o e _=>s b o e
theorem Kp.bt {Pt:Addr}{ps:va}(e:H Pt=some (.tbl ps))(s:qE Pt H H'):Kp H H':=λb o h k=>s b o h λz=>by
 rw[z,e] at h;exact k _ (Option.some.inj h).symm
variable {a:Addr}
theorem Kp.lst (k:Kp H H'){xs:List V}(e:H a=some (.lst xs)):H' a=some (.lst xs):=k a _ e λ_ z=>by cases z
theorem Kp.ins (k:Kp H H'){C:Addr}{fs:List (Str×V)}(e:H a=some (.ins C dx fs)):H' a=some (.ins C dx fs):=k a _ e λ_ z=>by cases z
theorem FP.good (h:FP p):good (.int p)=true:=by
 show jl p=true;unfold jl
 rcases h with h|h
 ·rw[h];rfl
 ·have:(Br.any λq=>q==p)=true:=by
   rw[List.any_eq_true];exact⟨p,h,by simp⟩
  rw[this];simp
theorem qI {GH F6:Addr}{Q:Hp->Prop}{E:XK}(hf:H fl=none)(hd:H F6=none)(ne:F6≠fl)(hp:FP p)(q:∀H',ax H H'->H' fl=some (.ins CF F6 (dR p))->Q H'):
 pQ CF GH [.ref fl,.int p] (upd (upd H F6 (.own fl)) fl (.ins CF F6 [])) (λv H2=>v=.non/\Q H2) E:=by
 refine⟨fl,F6,.int p,"int",rfl,.int p,ae,λ_=>⟨rfl,?_⟩,λg=>by rw[hp.good] at g;cases g⟩;rw[rJ];exact q _ ((aq hd).trans (aq (by rw[ai (Ne.symm ne)];exact hf))) ae
noncomputable def tG (K:Frag)(H:Hp)(a:Addr)(ns:List Int):Prop:=(∃o,H a=some (.frz o (.lst (ns.map V.int))))\/∃(o:Obj)(its:va)(n:Nat),K.lookup a=some o/\o.cls=.type "list"/\o.dict=none/\o.data=.seq its n/\its.size<=sizeLine/\L2.aR (ns.map V.int) its.toList
variable {ns:List Int}
theorem tG.sq (h:tG K H a ns):ba K H a (ns.map V.int):=by
 rcases h with⟨o,h⟩|h
 ·exact .inl (.inr ⟨o,h⟩)
 ·exact .inr h
theorem tG.kp (h:tG K H a ns)(S:Kp H H'):tG K H' a ns:=by
 rcases h with⟨o,h⟩|h
 ·exact .inl ⟨o,S _ _ h λ_ z=>by cases z⟩
 ·exact .inr h
theorem tG.but (h:tG K H a ns)(R:aE H r)(S:SameBut r H H'):tG K H' a ns:=by
 rcases h with⟨o,h⟩|h
 ·refine .inl ⟨o,S _ _ h λz=>?_⟩;obtain⟨l,x,e,_⟩:=R;rw[z,e] at h
  cases h
 ·exact .inr h
theorem jD {ls:List Pos}{q:Str}{Pt:Addr}(h:kj ls q Pt H)(R:aE H r)(S:SameBut r H H'):kj ls q Pt H':=by
 obtain⟨l,x,e,_⟩:=R;exact h.but e S
variable {X:Cx}
theorem hV.imp' {st:uH}{t u:TS}(h:hV X st t)(i:∀D σ H,u D σ H->t D σ H):hV X st u:=λpins s σ H D I q=>h pins s σ H D I (i D σ H q)
section
variable {P:zO}{w:World}{K:PySem.W.Frag}{mg:yN}{base:Heap}
variable {f c' ND NF:Addr}{oc fo:Obj}{pm ctv:Value}{cs:List Addr}{os:List Obj}{ys:nO}{vs:List V}{e:Expr}{φ0:Hp->VK->XK->Prop}{H7:Hp}{Q:VK}{E:XK}
theorem xX {tell:Str}(hfo:fo=kla_obj "<lambda>" Fs (vx e) (qK e) (lA e) (ys.zip cs).reverse pm c' ctv)
 (hb:bindArgs (kla_fn "<lambda>" Fs (vx e) (qK e) (lA e) (ys.zip cs).reverse pm (.ref c') ctv) ⟨[],[]⟩=pure [])(hk:(lA e).kind=.function/\(lA e).isCoroutine=false/\(lA e).isGenerator=false/\(∀x∈(lA e).names,x.2≠.cell)/\(∀q∈(lA e).names,q.2=.free->q.1∈ys)/\(∀y∈ys,(lA e).names.lookup y=some .free)/\ys.Nodup)
 (nc:cs.Nodup)(lc:ys.length=cs.length)(ro:Paired qw vs os)(lv:vs.length=ys.length)(Ht:eM Fs oc)(mono:pB φ0)
 (Gi:∀(A:Around)(outer:List Env)(s:Fp)(H:Hp)(Q:VK)(E:XK),Fq 6 (A.deeper (envX Fs (lA e) s.heap.objs.size f (.ref c') (ys.zip cs).reverse))->φ0 H Q E->∃t,PE (Bu P w K mg base ys Fs (lA e) f (.ref c') (ys.zip cs).reverse A outer s H E) (qK e) t/\t (vs.map some) H Q)
 (hf:H7 f=some (dw f fo))(Gd:H7 c'=some (dw c' oc))(z:∀c∈cs,H7 c=none)
 (h:∀Q0 E0,(tell="told"->∀v H',ax H7 H'->Q0 v H')->(tell="filling"->∀H',ax H7 H'->E0 (.ref NF) none H')->(tell="degree"->∀H',ax H7 H'->E0 (.ref ND) none H')->φ0 H7 Q0 E0)
 (i:∀H',fH (cs.zip os) H'->ax H7 (eZ (cs.zip os) H')->Q (.str tell) H'):pY P w K mg base 7 ND NF [.ref f] (dD (cs.zip os) H7) Q E:=by
 subst hfo;obtain⟨k1,k2,k3,k4,k5,k6,k7⟩:=hk;refine⟨f,_,rfl,p7 (φ0:=φ0) (k:=6) hb k1 k2 k3 k4 k5 k6 k7 nc lc ro lv Ht Gi,vW mono,yO hf Gd z (h _ _ (λet v H8 s8=>?_) (λet H8 s8=>⟨rfl,.inr ⟨rfl,λH9 s9=>?_⟩⟩) λet H8 s8=>⟨rfl,.inl ⟨rfl,λH9 s9=>?_⟩⟩)⟩
 ·obtain⟨i1,i2⟩:=A6 z (j4 s8);have:=i _ i1 i2;rw[et] at this;exact this
 ·obtain⟨i1,i2⟩:=A6 z ((j4 s8).trans s9);have:=i H9 i1 i2;rw[et] at this;exact this
 ·obtain⟨i1,i2⟩:=A6 z ((j4 s8).trans s9);have:=i H9 i1 i2;rw[et] at this;exact this
end
variable {CS:Addr}
theorem yQ {ND NF:Addr}{vs:List V}:pB (λH Q E=>yT CS CF ND NF vs H Q E):=by
 intro H Q Q' E E' hQ hE h;obtain⟨way,sy,fl,p,n,as,bs,x,y,T,e,h1,h2,h3,h4,h5,h6,h7,q1,q2,q3⟩:=h;exact⟨way,sy,fl,p,n,as,bs,x,y,T,e,h1,h2,h3,h4,h5,h6,h7,λg z v H' s=>hQ _ _ (q1 g z v H' s),λg z H' s=>hE _ _ _ (q2 g z H' s),λg H' s=>hE _ _ _ (q3 g H' s)⟩
theorem A4.kp {bs:List Addr}(h:A4 CS CF H s fl p n as bs)(k:Kp H H'):A4 CS CF H' s fl p n as bs:=by
 obtain⟨dx,F6,A,B,h1,h2,h3,h4⟩:=h.ex;exact⟨⟨dx,F6,A,B,k.ins h1,k.ins h2,k.lst h3,k.lst h4⟩,h.l1,h.l2⟩
theorem A4.but {bs:List Addr}(h:A4 CS CF H s fl p n as bs)(R:aE H r)(k:SameBut r H H'):A4 CS CF H' s fl p n as bs:=by
 obtain⟨dx,F6,A,B,h1,h2,h3,h4⟩:=h.ex;obtain⟨l,z,e0,_⟩:=R
 have no:∀{bs:List Addr}{a:Addr},H a=some (.lst (bs.map V.ref))->a≠r:=λ{bs a} e q=>by
  rw[q,e0] at e
  cases bs with
  |nil=>cases e
  |cons b bs=>cases e
 refine⟨⟨dx,F6,A,B,k _ _ h1 λq=>?_,k _ _ h2 λq=>?_,k _ _ h3 (no h3),k _ _ h4 (no h4)⟩,h.l1,h.l2⟩
 ·rw[q,e0] at h1;cases h1
 ·rw[q,e0] at h2;cases h2
theorem DO.kp (h:DO H x T d)(k:Kp H H'):DO H' x T d:=h.keep (λ_ e=>k _ _ e λ_ z=>by cases z) (λ_ e=>k.lst e) λ_ e=>k _ _ e λ_ z=>by cases z
theorem Tg.kp (h:Tg H x)(k:Kp H H'):Tg H' x:=by
 cases h with
 |non=>exact .non
 |lst e=>exact .lst (k.lst e)
 |dic e=>exact .dic (k _ _ e λ_ z=>by cases z)
 |tup e=>exact .tup (k _ _ e λ_ z=>by cases z)
 |str=>exact .str
 |int=>exact .int
theorem Tg.but (h:Tg H x)(R:aE H r)(s:SameBut r H H'):Tg H' x:=by
 obtain⟨l,z,e0,_⟩:=R
 cases h with
 |non=>exact .non
 |lst e=>exact .lst (s _ _ e λq=>by rw[q,e0] at e;cases e)
 |dic e=>exact .dic (s _ _ e λq=>by rw[q,e0] at e;cases e)
 |tup e=>exact .tup (s _ _ e λq=>by rw[q,e0] at e;cases e)
 |str=>exact .str
 |int=>exact .int
theorem aE.kp (h:aE H r)(k:Kp H H'):aE H' r:=let⟨l,x,e,z⟩:=h;⟨l,x,k.lst e,z⟩
structure Fz (K:Frag)(CS CF Pt sa r sy fl:Addr)(x:V)(T:String)(d:PyData)(p n:Int)(as bs:List Addr)(ns:List Int)(H:Hp):Prop where
 y:A4 CS CF H sy fl p n as bs
 d:DO H x T d
 r:aE H r
 s:tG K H sa ns
 t:ux Pt H
section
variable {K:Frag}{CS CF Pt sa r sy fl:Addr}{x:V}{T:String}{d:PyData}{p n:Int}{as bs:List Addr}{ns:List Int}{H H':Hp}
theorem Fz.same (h:Fz K CS CF Pt sa r sy fl x T d p n as bs ns H)(s:ax H H'):Fz K CS CF Pt sa r sy fl x T d p n as bs ns H':=⟨h.y.same s,h.d.same s,h.r.same s,h.s.kp (Kp.of s),h.t.same s⟩
theorem Fz.but (h:Fz K CS CF Pt sa r sy fl x T d p n as bs ns H)(s:SameBut r H H')(R:aE H' r):Fz K CS CF Pt sa r sy fl x T d p n as bs ns H':=⟨h.y.but h.r s,h.d.but h.r s,R,h.s.but h.r s,jD h.t h.r s⟩
theorem Fz.kp (h:Fz K CS CF Pt sa r sy fl x T d p n as bs ns H)(k:Kp H H')(t:ux Pt H'):Fz K CS CF Pt sa r sy fl x T d p n as bs ns H':=⟨h.y.kp k,h.d.kp k,h.r.kp k,h.s.kp k,t⟩
end
structure B5 (P:zO)(w:World)(K:Frag)(mg:yN)(base:Heap)(CS C CF GH ND NF GK GL GN cc Pt:Addr)(Ge Gf Gg:vH):Prop where
 cF:oO K mg CF
 MF:Mk K CF GK
 FFI:Ef P w K mg base (aO P w) 2 GK Ge Ap (pQ CF GH)
 bFFI:L2.az K Ge Ap []
 cS:yw K mg C
 MS:Mk K C GL
 FSI:Ef P w K mg base (aO P w) 6 GL Gf tj (nj C CF)
 bFSI:L2.az K Gf tj []
 cY:pV K mg CS
 MY:Mk K CS GN
 FYI:Ef P w K mg base (aO P w) 5 GN Gg tE (Ac CS C CF)
 bFYI:L2.az K Gg tE [.none]
 room:∃f fd,Ef P w K mg base (aO P w) 1 f fd Dy (vd K)/\L2.az K fd Dy []/\mg "_law_room"=some (.ref f)/\keepIn K (.ref f)=true
 prime:∃f fd,Ef P w K mg base (aO P w) 2 f fd ui CH/\L2.az K fd ui []/\mg "_law_prime"=some (.ref f)/\keepIn K (.ref f)=true
 take:∃f fd,Ef P w K mg base (aO P w) 1 f fd zT Eb/\L2.az K fd zT []/\mg "_law_take"=some (.ref f)/\keepIn K (.ref f)=true
 wishes:∃f fd,Ef P w K mg base (aO P w) 6 f fd FK Bg/\L2.az K fd FK []/\mg "_law_wishes"=some (.ref f)/\keepIn K (.ref f)=true
 kind:∃f fd,Ef P w K mg base (aO P w) 8 f fd ["_law_call"] (pY P w K mg base 7 ND NF)/\L2.az K fd ["_law_call"] []/\mg "_law_kind"=some (.ref f)/\keepIn K (.ref f)=true
 due:∃f fd,Ef P w K mg base (aO P w) 2 f fd BH uJ/\L2.az K fd BH []/\mg "_law_due"=some (.ref f)/\keepIn K (.ref f)=true
 asked:∃f fd,Ef P w K mg base (aO P w) 6 f fd qe (yT CS CF ND NF)/\L2.az K fd qe []/\mg "_law_asked"=some (.ref f)/\keepIn K (.ref f)=true
 hd:CodeHd base cc Pt
 bm:∃bm ob,mg "__builtins__"=some (.ref bm)/\bm≠builtinsNs/\base.get? bm=some ob/\ob.cls=.type "module"/\ob.dict=some builtinsNs/\ob.data=.plain
 hS:pF K
 m_max:mg "max"=none
 m_min:mg "min"=none
 m_len:mg "len"=none
 m_range:mg "range"=none
 m_repr:mg "repr"=none
theorem FH {S:Nat}{y1 y2 y3 y4:Str}(h1:eB X y1=S+2)(h2:eB X y2=S+3)(h3:eB X y3=S+4)(h4:eB X y4=S+5):([y1,y2,y3,y4].map (eB X)).Nodup:=by
 rw[List.map_cons,List.map_cons,List.map_cons,List.map_cons,h1,h2,h3,h4];simp
noncomputable def Nx (K:Frag)(a:Addr)(ns:List Int)(Pt:Addr)(D:Ends):Prop:=∀σ' H',(∃o1 o2 o3 o4 o5 o6 o7 o8 o9 Hz,σ'=[some (.ref a),o1,o2,o3,o4,o5,o6,o7,o8,o9,Hz])->tG K H' a ns->ux Pt H'->D.nx σ' H'
noncomputable def An (K:Frag)(CS CF Pt:Addr):TS:=λD σ H=>∃(sa r sy fl:Addr)(x:V)(T:String)(d:PyData)(p n:Int)(as bs:List Addr)(ns:List Int)(o1 o3 o4 o5 o8 o9 Hz:Option V),
 σ=[some (.ref sa),o1,some (.ref r),o3,o4,o5,some (.ref sy),some x,o8,o9,Hz]/\0<=n/\n<=3/\Fz K CS CF Pt sa r sy fl x T d p n as bs ns H/\Nx K sa ns Pt D
section
variable {P:zO}{w:World}{K:PySem.W.Frag}{mg:yN}{base:Heap}
variable {fa:Addr}{A:Around}{outer:List Env}{s0:Fp}{H0:Hp}{E0:XK}{CS C CF GH ND NF GK GL GN cc Pt:Addr}{Ge Gf Gg:vH}
theorem yS:(XL P w K mg base fa (.ref cc) A outer s0 H0 E0).env.qual++"<lambda>"=Fs:=rfl
set_option maxHeartbeats 2000000 in
theorem u4 (GB:Fq 9 (XL P w K mg base fa (.ref cc) A outer s0 H0 E0).A)(W:B5 P w K mg base CS C CF GH ND NF GK GL GN cc Pt Ge Gf Gg):
 hV (XL P w K mg base fa (.ref cc) A outer s0 H0 E0) (jf.drop 7) (An K CS CF Pt):=by
 obtain⟨fKd,abt,FKd,bKd,mKd,kKd⟩:=W.kind;obtain⟨fAs,aby,FAs,bAs,mAs,kAs⟩:=W.asked;obtain⟨fDu,abD,FDu,bDu,mDu,kDu⟩:=W.due;obtain⟨RI,JV,JW,JX,JY,JZ⟩:=W.take;have hr8:=GB.mono (show 8<=9 by decide);have Gz:=GB.mono (show 2<=9 by decide);have Gb:=GB.mono (show 1<=9 by decide);have MF:xk (XL P w K mg base fa (.ref cc) A outer s0 H0 E0) cc Pt:=⟨rfl,W.hd,W.bm⟩
 refine hV.imp' (au (dJ PassesOwn.never rfl (cX (by rfl) W.m_range (@aj _ _ _ _ _ ah ag rfl)) (aA (i:=8) fL.nd rfl (Or.inr rfl))
  (ao (@aM _ _ 9 _ _ _ _ fL.nd rfl (Or.inr rfl) (@bo _ _ _ _ _ _ _ bV (@cy _ _ _ _ (@aj _ _ _ _ _ fV (@aj _ _ _ _ _ (@cy _ _ _ _ ag) (@aj _ _ _ _ _ oX (@aj _ _ _ _ _ (@bO _ _ _ _ _ (@aj _ _ _ _ _ ah ag rfl)) (@aj _ _ _ _ _ cK (@aj _ _ _ _ _ ah ag rfl) rfl) rfl) rfl) rfl) rfl)) (av JW Gb (by rfl) JY JZ JX .nil af (@aj _ _ _ _ _ (pv 2) (@aj _ _ _ _ _ ah ag rfl) rfl)) (λ_ _=>rfl)) rfl (Or.inl rfl))
  (ao (@aM _ _ 10 _ _ _ _ fL.nd rfl (Or.inl rfl) (aB (jF Gb W.hS) (by rfl) W.m_repr (by rfl) (@aj _ _ _ _ _ (@cy _ _ _ _ (@aj _ _ _ _ _ (pv 7) (@aj _ _ _ _ _ (pv 9) ag rfl) rfl)) ag rfl)) rfl (Or.inl rfl))
  (ao (bc (@aI _ _ _ _ _ _ _ _ gI (uZ (ys:=["_law_degree","_law_system","_law_thing","_law_way"]) (js:=[7,6,9,8]) FKd hr8 (by rfl) mKd kKd bKd (λH s e s' z=>by obtain⟨a,cls,a0,B,d,H',_,_,_,_,hE⟩:=z;exact hE.elim) rfl (λy hy=>by
   simp at hy
   rcases hy with rfl|rfl|rfl|rfl <;> rfl) (λy hy=>rfl) (@aj _ _ _ _ _ (uo (osc:=ak gc) MF rfl (by decide +kernel) rfl) ag rfl)) (av FDu Gz (by rfl) mDu kDu bDu .nil af (@aj _ _ _ _ _ (pv 8) (@aj _ _ _ _ _ (pv 7) ag rfl) rfl)) (aK _)) (au (ay dG)) aF)
  (au (bc (@aI _ _ _ _ _ _ _ _ gI (aB (jF Gb W.hS) (by rfl) W.m_repr (by rfl) (@aj _ _ _ _ _ (@cy _ _ _ _ (@aj _ _ _ _ _ (pv 7) (@aj _ _ _ _ _ (pv 9) ag rfl) rfl)) ag rfl)) (pv 10) (aK _)) (au (ay dG)) aF))))))) λEn σ H h=>?_
 obtain⟨sa,r,sy,fl,x,T,d,p,n,as,bs,ns,o1,o3,o4,o5,o8,o9,Hz,rfl,n0,n3,F0,fin⟩:=h;refine⟨_,rfl,by decide,by decide,?_⟩;refine iV (lo:=0) (λi σ H'=>(∃o8 o9 Hz,σ=[some (.ref sa),o1,some (.ref r),o3,o4,o5,some (.ref sy),some x,o8,o9,Hz])/\Fz K CS CF Pt sa r sy fl x T d p n as bs ns H') ⟨⟨_,_,_,rfl⟩,F0⟩ ?_ ?_
 ·rintro i σ H1 hi ⟨⟨o8,o9,Hz,rfl⟩,F1⟩;have hi4:i<4:=hi;refine⟨Nat.zero_le _,λl1 GJ=>?_⟩;intro d2 hd2;refine⟨EV,λt3 XS=>⟨aac,λL hL=>?_⟩⟩;have XT:=aq (o:=.lst []) GJ;have Ug:=aq (o:=.dK []) hd2;have RJ:=aq (o:=.tup [.int 2]) XS;have N6:=aq (o:=.lst [.non,.ref l1,.ref d2,.ref t3,.str "x",.int 7]) hL;have e1:(upd (upd (upd (upd H1 l1 (.lst [])) d2 (.dK [])) t3 (.tup [.int 2])) L (.lst [.non,.ref l1,.ref d2,.ref t3,.str "x",.int 7])) l1=some (.lst []):=N6 _ _ (RJ _ _ (Ug _ _ ae));have e2:(upd (upd (upd (upd H1 l1 (.lst [])) d2 (.dK [])) t3 (.tup [.int 2])) L (.lst [.non,.ref l1,.ref d2,.ref t3,.str "x",.int 7])) d2=some (.dK []):=N6 _ _ (RJ _ _ ae);have e3:(upd (upd (upd (upd H1 l1 (.lst [])) d2 (.dK [])) t3 (.tup [.int 2])) L (.lst [.non,.ref l1,.ref d2,.ref t3,.str "x",.int 7])) t3=some (.tup [.int 2]):=N6 _ _ ae;have eL:(upd (upd (upd (upd H1 l1 (.lst [])) d2 (.dK [])) t3 (.tup [.int 2])) L (.lst [.non,.ref l1,.ref d2,.ref t3,.str "x",.int 7])) L=some (.lst [.non,.ref l1,.ref d2,.ref t3,.str "x",.int 7]):=ae;have F2:=F1.same (XT.trans (Ug.trans (RJ.trans N6)));generalize (upd (upd (upd (upd H1 l1 (.lst [])) d2 (.dK [])) t3 (.tup [.int 2])) L (.lst [.non,.ref l1,.ref d2,.ref t3,.str "x",.int 7]))=H2 at e1 e2 e3 eL F2 |-;clear XT Ug RJ N6 GJ hd2 XS hL F1;obtain⟨lr,xr,er,IY,IZ⟩:=F2.r;refine⟨_,rfl,r,lr,xr,6,rfl,er,IY,IZ,by decide,by decide,λz l' r' z0 z6 r0 r1=>?_⟩
  have Uh:L≠r:=λq=>by rw[q,er] at eL;cases eL
  have sb:SameBut r H2 (upd H2 r (.lst [.int l',.int r'])):=λb u e nb=>by rw[ai nb];exact e
  have R3:aE (upd H2 r (.lst [.int l',.int r'])) r:=⟨l',r',ae,r0,r1⟩;have g1:=(Tg.lst e1).but F2.r sb;have g2:=(Tg.dic e2).but F2.r sb;have g3:=(Tg.tup e3).but F2.r sb;have F3:=F2.but sb R3;have MH:=sb _ _ eL Uh;generalize upd H2 r (.lst [.int l',.int r'])=H3 at sb R3 g1 g2 g3 F3 MH |-
  have yy:∃y,mR [V.non,.ref l1,.ref d2,.ref t3,.str "x",.int 7] z=some y/\Tg H3 y:=by
   rcases(by omega:z=0\/z=1\/z=2\/z=3\/z=4\/z=5) with q|q|q|q|q|q <;> subst q
   ·exact⟨_,rfl,.non⟩
   ·exact⟨_,rfl,g1⟩
   ·exact⟨_,rfl,g2⟩
   ·exact⟨_,rfl,g3⟩
   ·exact⟨_,rfl,.str⟩
   ·exact⟨_,rfl,.int⟩
  obtain⟨y,ey,gy⟩:=yy;refine⟨L,_,z,y,rfl,rfl,ba.of MH,ey,?_⟩;clear g1 g2 g3 e1 e2 e3 eL MH sb R3 F2 er ey;obtain⟨Ty,dy,gd⟩:=gy.dg;refine⟨_,rfl,_,rfl,ic,λL2 JL=>?_⟩;have s4:=aq (o:=.lst [x,y]) JL;have F4:=F3.same s4;have g4:=gy.same s4;have Ui:=gd.same s4;obtain⟨p1,p2,p3,p4⟩:=rh (K:=K) (ae:upd H3 L2 (.lst [x,y]) L2=_) F4.d Ui;refine⟨L2,_,rfl,p1,p2,p3,p4,?_⟩;generalize upd H3 L2 (.lst [x,y])=H4 at s4 F4 g4 Ui |-;clear p1 p2 p3 p4 s4 JL F3 gy gd;simp only[aZ,AH,lF,iO,Bq,rn,jB,wY,aQ];refine zU (pos:=zx wX) List.mem_cons_self Bm yS F4.t λH8 f c' oc ctv hf Gd Ht S8 tb8=>?_;obtain⟨ps1,hP1,_⟩:=id F4.t;have k8:Kp H4 H8:=Kp.bt hP1 S8;have F8:=F4.kp k8 tb8;have g8:=g4.kp k8;have gd8:=Ui.kp k8
  have w0:(0:Int)<=0+(i:Int):=by omega
  have w3:0+(i:Int)<=3:=by omega
  generalize 0+(i:Int)=way at w0 w3 |-;refine⟨[x,.ref sy,y,.int way],rfl,λos ro free=>?_⟩
  refine xX (tell:=qm way x) (e:=wX) (ys:=["_law_degree","_law_system","_law_thing","_law_way"]) (vs:=[x,.ref sy,y,.int way]) (φ0:=λH Q E=>yT CS CF ND NF [.int way,.ref sy,x,y] H Q E) (pm:=(mg "__name__").getD .none) (ctv:=ctv) rfl rfl ⟨rfl,rfl,rfl,by decide +kernel,by decide +kernel,by decide +kernel,by decide +kernel⟩ ?nc rfl ro rfl Ht yQ (λA outer s' H Q E hr q=>?_) hf Gd free
   (λQ0 E0 hT hF hD=>⟨way,sy,fl,p,n,as,bs,x,y,T,rfl,w0,w3,F8.y,n0,n3,F8.d.th,g8,λg nw v H' sH=>hT ?_ v H' sH,λg nw H' sH=>hF ?_ H' sH,λg H' sH=>hD ?_ H' sH⟩) (λH9 Rp S9=>⟨Rp,?_⟩)
  case nc=>exact FH (S:=s0.heap.objs.size) rfl rfl rfl rfl
  ·exact⟨_,av (E:=E) FAs hr (by rfl) mAs kAs bAs .nil (tD p8) (@aj _ _ _ _ _ (pv 3) (@aj _ _ _ _ _ (pv 1) (@aj _ _ _ _ _ (pv 0) (@aj _ _ _ _ _ (pv 2) ag rfl) rfl) rfl) rfl),_,rfl,_,rfl,_,rfl,_,rfl,q⟩
  ·unfold qm;rw[if_pos g,if_neg nw]
  ·unfold qm;rw[if_pos g,if_pos nw]
  ·unfold qm;rw[g,if_neg Bool.false_ne_true]
  have F9:=F8.same S9;have XU:=gd8.same S9;generalize eZ _ H9=H10 at F9 XU |-;refine⟨_,rfl,_,rfl,way,x,T,rfl,w0,w3,F9.d.th,λH11 RK=>⟨rfl,_,rfl,?_⟩⟩;have F11:=F9.same RK;have Uj:=XU.same RK;rw[decide_eq_true rfl];refine bD ?_;refine⟨_,rfl,_,rfl,ic,λL3 hL3=>?_⟩;have vS:=aq (o:=.lst [x,y]) hL3;have XW:=F11.same vS;obtain⟨p1,p2,p3,p4⟩:=rh (K:=K) (ae:upd H11 L3 (.lst [x,y]) L3=_) XW.d (Uj.same vS);refine⟨L3,_,rfl,p1,p2,p3,p4,_,rfl,rfl,_,rfl,?_⟩;rw[decide_eq_true rfl];exact bD ⟨⟨_,_,_,rfl⟩,XW⟩
 ·rintro σ H1 ⟨⟨o8,o9,Hz,rfl⟩,F1⟩;exact fin _ _ ⟨_,_,_,_,_,_,_,_,_,_,rfl⟩ F1.s F1.t
end
theorem PS.imp' {st:Stmt}{t u:TS}(h:PS X st t)(i:∀D σ H,u D σ H->t D σ H):PS X st u:=λpins s σ H D I q=>h pins s σ H D I (i D σ H q)
noncomputable abbrev mz (k:Nat):Stmt:=jf.getD k (.Pass ⟨0,0,0,0⟩)
structure Fb (K:Frag)(CF Pt:Addr)(p:Int)(sa fl r:Addr)(ns:List Int)(H:Hp):Prop where
 f:∃F6,H fl=some (.ins CF F6 (dR p))
 r:aE H r
 s:tG K H sa ns
 t:ux Pt H
section
variable {K:Frag}{CF Pt sa r fl:Addr}{p:Int}{ns:List Int}{H H':Hp}
theorem aE.not {H H':Hp}{r b:Addr}{o:HO}(R:aE H r)(s:SameBut r H H')(e:H b=some o)(n:∀xs,o≠.lst xs):H' b=some o:=s _ _ e λz=>by
 obtain⟨l,x,er,_⟩:=R;rw[z,er] at e;exact n _ (Option.some.inj e).symm
theorem Fb.same (h:Fb K CF Pt p sa fl r ns H)(s:ax H H'):Fb K CF Pt p sa fl r ns H':=⟨let⟨F6,e⟩:=h.f;⟨F6,s _ _ e⟩,h.r.same s,h.s.kp (Kp.of s),h.t.same s⟩
theorem Fb.but (h:Fb K CF Pt p sa fl r ns H)(s:SameBut r H H')(R:aE H' r):Fb K CF Pt p sa fl r ns H':=⟨let⟨F6,e⟩:=h.f;⟨F6,h.r.not s e λ_ z=>by cases z⟩,R,h.s.but h.r s,jD h.t h.r s⟩
end
noncomputable def Dx (K:Frag)(CS CF Pt:Addr):TS:=λD σ H=>∃(a2 a6 a7 a8 a9 LH:Option V)(sa fl r:Addr)(ns:List Int)(p many:Int),σ=[some (.ref sa),a2,some (.ref r),some (.int p),some (.ref fl),some (.int many),a6,a7,a8,a9,LH]/\FP p/\1<=many/\many<=3/\Fb K CF Pt p sa fl r ns H /\
 ∀H' sy as,Fb K CF Pt p sa fl r ns H'->A4 CS CF H' sy fl p many as []->D.nx [some (.ref sa),a2,some (.ref r),some (.int p),some (.ref fl),some (.int many),some (.ref sy),a7,a8,a9,LH] H'
section
variable {P:zO}{w:World}{K:PySem.W.Frag}{mg:yN}{base:Heap}
variable {fa:Addr}{A:Around}{outer:List Env}{s0:Fp}{H0:Hp}{E0:XK}{CS C CF GH ND NF GK GL GN cc Pt:Addr}{Ge Gf Gg:vH}
set_option maxHeartbeats 2000000 in
theorem AJ (GB:Fq 9 (XL P w K mg base fa (.ref cc) A outer s0 H0 E0).A)(W:B5 P w K mg base CS C CF GH ND NF GK GL GN cc Pt Ge Gf Gg):
 PS (XL P w K mg base fa (.ref cc) A outer s0 H0 E0) (mz 4) (Dx K CS CF Pt):=by
 obtain⟨fWs,abP,FWs,bWs,mWs,kWs⟩:=W.wishes;have hr7:=GB.mono (show 7<=9 by decide);have XX:=GB.mono (show 6<=9 by decide)
 refine PS.imp' (@aM _ _ 6 _ _ _ _ fL.nd rfl (Or.inr rfl) (m5 (dvs:=[.non]) W.MY W.FYI XX (by rfl) W.cY.mgC W.bFYI (.cons rfl .nil) af (@aj _ _ _ _ _ (pv 4) (@aj _ _ _ _ _ (pv 5) (@aj _ _ _ _ _ (cI (N:=["_law_rows","_law_field"]) (nl:=1) (js:=[4]) (osc:=ak gc) ⟨rfl,rfl,by decide +kernel,by decide +kernel,by decide +kernel,rfl,(.cons ⟨rfl,by decide +kernel⟩ .nil),by decide +kernel⟩ rfl
  (cE (@bo _ _ _ _ _ _ _ bK (av FWs XX (by rfl) mWs kWs bWs .nil af (@aj _ _ _ _ _ (pv 2) (@aj _ _ _ _ _ (pv 3) (@aj _ _ _ _ _ (pv 5) (@aj _ _ _ _ _ ah ag rfl) rfl) rfl) rfl)) ah (λ_ _=>rfl)))
  (λCq fq sq Hq=>aA (i:=0) (by show(["_law_rows","_law_field"]:nO).Nodup;decide +kernel) rfl (Or.inl rfl) (Or.inr rfl))
  (λCq fq sq Hq=>ck)
  (λCq fq sq Hq=>(m5 W.MS W.FSI hr7 (by rfl) W.cS.mgC W.bFSI .nil af (@aj _ _ _ _ _ (pv 1) (@aj _ _ _ _ _ (pv 0) ag rfl) rfl)))) ag rfl) rfl) rfl) (by decide) (aV rfl) (by rw[aV rfl,aV rfl];rfl)) rfl (Or.inl rfl)) λEn σ H h=>?_
 obtain⟨a2,a6,a7,a8,a9,LH,sa,fl,r,ns,p,many,rfl,hp,m1,m3,F0,fin⟩:=h;refine⟨_,rfl,_,rfl,_,rfl,_,rfl,_,rfl,r,p,many,3,rfl,F0.r,hp,by omega,by omega,by decide,by decide,λT LN LU Gh GQ H1 dr R1 GS=>?_⟩;have F1:=F0.but GS R1;obtain⟨xs,XY,lt⟩:=dr.n;refine⟨T,_,0,_,rfl,rfl,bx.of dr.t,rfl,LN,rfl,⟨xs,ba.of XY⟩,?_⟩;have hlen:=lt.length;rw[List.length_map] at hlen;have l10:=dr.l1;refine uW (a:=LN) (xs:=xs) (rest:=[some (.ref fl)]) (λj zs H'=>ax H1 H'/\∃as:List Addr,zs=as.map V.ref/\as.length=j/\Dq C CF p many H' as) ⟨ax.refl _,[],rfl,rfl,λa ha=>(nomatch ha)⟩ (λj zs H' hj hq=>?_) (λj y zs H' N hj ey hq hN=>?_) (λzs H' hq=>?_)
 ·obtain⟨s2,as,rfl,la,ok⟩:=hq;refine⟨?_,ba.of (s2 _ _ XY)⟩;rw[List.length_map,la];exact Nat.lt_of_le_of_lt (by omega:j<=10) (by decide)
 ·obtain⟨s2,as,rfl,la,ok⟩:=hq;obtain⟨ts,ets,l,ws,rfl,hl,tr⟩:=cn (lt.same s2) ey;obtain⟨raw,Uk,rfl⟩:=List.mem_map.mp (List.mem_of_getElem? ets);obtain⟨F6,hf⟩:=(F1.same s2).f;dsimp only[BX];refine aW ⟨_,rfl,_,rfl,λx dx hx Ul ne=>?_⟩;refine BD hf hp hl tr (by omega) (by omega) ((dr.lv raw Uk).few hp) hx Ul ne λH3 s3 wx=>hN _ _ ⟨s2.trans s3,as++[x],by simp,by simp[la],λa ha=>?_⟩
  rcases List.mem_append.mp ha with ha|ha
  ·exact ok.same s3 a ha
  ·rw[List.mem_singleton.mp ha];exact wx
 ·obtain⟨s2,as,rfl,la,ok⟩:=hq;intro D hD x dx hx Ul ne;have s3:=aq (o:=.lst (as.map V.ref)) hD;have F3:=F1.same (s2.trans s3);obtain⟨F6,hf⟩:=F3.f;have rt:Rt C CF p many (upd H' D (.lst (as.map V.ref))) (.ref D) fl as:=⟨⟨F6,hf⟩,m1,by omega,⟨⟨D,rfl,ae⟩,by omega,ok.same s3⟩⟩;exact Fo rt hx Ul ne λH4 s4 sy=>fin H4 x as (F3.same s4) sy
end
noncomputable def gn (s:Stmt):List Stmt:=match s with
 | .If _ b _ _=>b
 |_=>[]
noncomputable def zB (s:Stmt):Expr:=match s with
 | .Assign _ e _=>e
 |_=>.Name "" ⟨0,0,0,0⟩
noncomputable def DE (e:Expr):Expr:=match e with
 | .Subscript o _ _=>o
 |e=>e
noncomputable def DZ (e:Expr):List Expr:=match e with
 | .List es _=>es
 |_=>[]
noncomputable abbrev BV:List Expr:=DZ (DE (zB ((gn (mz 6)).getD 0 (.Pass ⟨0,0,0,0⟩))))
noncomputable abbrev zQ:TA:=(aQ (tC .non) (aQ (tC (.bl true)) (aQ (tC (.bl false)) (aQ (tC (.str "3")) (aQ (yq (aQ (tC (.int 2)) tW)) (aQ (pW tW) (aQ pI (aQ (tC (.int 0)) (aQ (tC (.int 300)) (aQ (tC (.int 301)) (aQ (jB (pD λi j=>V.int (i-j)) (tC (.int 0)) (tC (.int 1))) (aQ (jB (rI BE λi j=>.int (i^j.toNat)) (tC (.int 10)) (tC (.int 30))) tW))))))))))))
noncomputable def Eu (K:Frag)(CS CF Pt:Addr):TS:=λD σ H=>∃(a2 a4 a5 a8 a9 LH:Option V)(sa r sy fl:Addr)(x:V)(T:String)(d:PyData)(p n:Int)(as bs:List Addr)(ns:List Int),σ=[some (.ref sa),a2,some (.ref r),some (.int p),a4,a5,some (.ref sy),some x,a8,a9,LH]/\Fz K CS CF Pt sa r sy fl x T d p n as bs ns H /\
 ∀x' T' d' H',Fz K CS CF Pt sa r sy fl x' T' d' p n as bs ns H'->D.nx [some (.ref sa),a2,some (.ref r),some (.int p),a4,a5,some (.ref sy),some x',a8,a9,LH] H'
section
variable {P:zO}{w:World}{K:PySem.W.Frag}{mg:yN}{base:Heap}
variable {fa:Addr}{A:Around}{outer:List Env}{s0:Fp}{H0:Hp}{E0:XK}{CS C CF GH ND NF GK GL GN cc Pt:Addr}{Ge Gf Gg:vH}
set_option maxHeartbeats 400000 in
theorem FA:PA (XL P w K mg base fa (.ref cc) A outer s0 H0 E0) BV zQ :=
 (@aj _ _ _ _ _ fV (@aj _ _ _ _ _ dG (@aj _ _ _ _ _ dG (@aj _ _ _ _ _ cK (@aj _ _ _ _ _ (@bO _ _ _ _ _ (@aj _ _ _ _ _ ah ag rfl)) (@aj _ _ _ _ _ (@cy _ _ _ _ ag) (@aj _ _ _ _ _ oX (@aj _ _ _ _ _ ah (@aj _ _ _ _ _ ah (@aj _ _ _ _ _ ah (@aj _ _ _ _ _ (@aH _ _ _ _ _ _ _ _ gU ah ah) (@aj _ _ _ _ _ (@aH _ _ _ _ _ _ _ _ gQ ah ah) ag rfl) rfl) rfl) rfl) rfl) rfl) rfl) rfl) rfl) rfl) rfl) rfl)
noncomputable abbrev CP:Expr:=zB ((gn (mz 6)).getD 0 (.Pass ⟨0,0,0,0⟩))
set_option maxHeartbeats 400000 in
theorem FO (GB:Fq 9 (XL P w K mg base fa (.ref cc) A outer s0 H0 E0).A)(W:B5 P w K mg base CS C CF GH ND NF GK GL GN cc Pt Ge Gf Gg):PE (XL P w K mg base fa (.ref cc) A outer s0 H0 E0) CP (jB (yI K) (pW zQ) (gH Eb [] (λ_ _ _=>False) (aQ (cC 2) (aQ (tC (.int 12)) tW)))):=by
 obtain⟨RI,JV,JW,JX,JY,JZ⟩:=W.take;have Gb:=GB.mono (show 1<=9 by decide);exact(@bo _ _ _ _ _ _ _ bV (@cy _ _ _ _ (@FA P w K mg base fa A outer s0 H0 E0 cc)) (av JW Gb (by rfl) JY JZ JX .nil af (@aj _ _ _ _ _ (pv 2) (@aj _ _ _ _ _ ah ag rfl) rfl)) (λ_ _=>rfl))
theorem vS (GB:Fq 9 (XL P w K mg base fa (.ref cc) A outer s0 H0 E0).A)(W:B5 P w K mg base CS C CF GH ND NF GK GL GN cc Pt Ge Gf Gg):PS (XL P w K mg base fa (.ref cc) A outer s0 H0 E0) ((gn (mz 6)).getD 0 (.Pass ⟨0,0,0,0⟩)) (iO (jB (yI K) (pW zQ) (gH Eb [] (λ_ _ _=>False) (aQ (cC 2) (aQ (tC (.int 12)) tW)))) (aZ 7)):=
 (@aM _ _ 7 _ _ _ _ fL.nd rfl (Or.inr rfl) (@FO P w K mg base fa A outer s0 H0 E0 CS C CF GH ND NF GK GL GN cc Pt Ge Gf Gg GB W) rfl (Or.inl rfl))
theorem Bo {st:Stmt}{l:uH}{t:TS}(h:PS X st t)(e:l=[st]):hV X l t:=by
 subst e;exact au h
theorem DV:gn (mz 6)=[(gn (mz 6)).getD 0 (.Pass ⟨0,0,0,0⟩)]:=rfl
theorem FD (GB:Fq 9 (XL P w K mg base fa (.ref cc) A outer s0 H0 E0).A)(W:B5 P w K mg base CS C CF GH ND NF GK GL GN cc Pt Ge Gf Gg):hV (XL P w K mg base fa (.ref cc) A outer s0 H0 E0) (gn (mz 6)) (iO (jB (yI K) (pW zQ) (gH Eb [] (λ_ _ _=>False) (aQ (cC 2) (aQ (tC (.int 12)) tW)))) (aZ 7)):=by
 have h:=@vS P w K mg base fa A outer s0 H0 E0 CS C CF GH ND NF GK GL GN cc Pt Ge Gf Gg GB W;have e:=DV
 revert h e
 generalize (gn (mz 6)).getD 0 (.Pass ⟨0,0,0,0⟩)=st;generalize gn (mz 6)=l;intro h e;exact Bo h e
set_option maxHeartbeats 600000 in
theorem AQ (GB:Fq 9 (XL P w K mg base fa (.ref cc) A outer s0 H0 E0).A)(W:B5 P w K mg base CS C CF GH ND NF GK GL GN cc Pt Ge Gf Gg):
 PS (XL P w K mg base fa (.ref cc) A outer s0 H0 E0) (mz 6) (Eu K CS CF Pt):=by
 obtain⟨RI,JV,JW,JX,JY,JZ⟩:=W.take;have Gb:=GB.mono (show 1<=9 by decide);refine PS.imp' (bc (@aI _ _ _ _ _ _ _ _ du (av JW Gb (by rfl) JY JZ JX .nil af (@aj _ _ _ _ _ (pv 2) (@aj _ _ _ _ _ ah ag rfl) rfl)) ah (aK _)) (@FD P w K mg base fa A outer s0 H0 E0 CS C CF GH ND NF GK GL GN cc Pt Ge Gf Gg GB W) aF) λEn σ H h=>?_;obtain⟨a2,a4,a5,a8,a9,LH,sa,r,sy,fl,x,T,d,p,n,as,bs,ns,rfl,F0,fin⟩:=h;obtain⟨lr,xr,er,IY,IZ⟩:=F0.r;refine⟨_,rfl,r,lr,xr,2,rfl,er,IY,IZ,by decide,by decide,λz l' r' z0 z2 r0 r1=>?_⟩;have F1:=F0.but (λb u e nb=>by rw[ai nb];exact e:SameBut r H (upd H r (.lst [.int l',.int r']))) ⟨l',r',ae,r0,r1⟩;generalize upd H r (.lst [.int l',.int r'])=H1 at F1 |-;clear er IY IZ r0 r1 F0;refine⟨rfl,_,rfl,?_⟩;refine cp (λ_=>?_) λ_=>fin _ _ _ _ F1
 have b2:∀{i:Int},i.natAbs<2^120->B 200 i:=λh=>by unfold B;exact Nat.lt_of_lt_of_le h (Nat.pow_le_pow_right (by decide) (by decide))
 refine⟨EV,λt5 XZ=>⟨Nat.zero_le _,λl6 X0=>?_⟩⟩;intro d7 X1;refine⟨_,_,rfl,rfl,_,_,rfl,rfl,⟨by decide,by decide,by decide⟩,aab,λL hL=>?_⟩;have s1:=aq (o:=.tup [.int 2]) XZ;have s2:=aq (o:=.lst []) X0;have s3:=aq (o:=.dK []) X1;have s4:=aq (o:=.lst [.non,.bl true,.bl false,.str "3",.ref t5,.ref l6,.ref d7,.int 0,.int 300,.int 301,.int (0-1),.int (10^(30:Int).toNat)]) hL;have e1:(upd (upd (upd (upd H1 t5 (.tup [.int 2])) l6 (.lst [])) d7 (.dK [])) L (.lst [.non,.bl true,.bl false,.str "3",.ref t5,.ref l6,.ref d7,.int 0,.int 300,.int 301,.int (0-1),.int (10^(30:Int).toNat)])) t5=some (.tup [.int 2]):=s4 _ _ (s3 _ _ (s2 _ _ ae));have e2:(upd (upd (upd (upd H1 t5 (.tup [.int 2])) l6 (.lst [])) d7 (.dK [])) L (.lst [.non,.bl true,.bl false,.str "3",.ref t5,.ref l6,.ref d7,.int 0,.int 300,.int 301,.int (0-1),.int (10^(30:Int).toNat)])) l6=some (.lst []):=s4 _ _ (s3 _ _ ae);have e3:(upd (upd (upd (upd H1 t5 (.tup [.int 2])) l6 (.lst [])) d7 (.dK [])) L (.lst [.non,.bl true,.bl false,.str "3",.ref t5,.ref l6,.ref d7,.int 0,.int 300,.int 301,.int (0-1),.int (10^(30:Int).toNat)])) d7=some (.dK []):=s4 _ _ ae;have eL:(upd (upd (upd (upd H1 t5 (.tup [.int 2])) l6 (.lst [])) d7 (.dK [])) L (.lst [.non,.bl true,.bl false,.str "3",.ref t5,.ref l6,.ref d7,.int 0,.int 300,.int 301,.int (0-1),.int (10^(30:Int).toNat)])) L=some (.lst [.non,.bl true,.bl false,.str "3",.ref t5,.ref l6,.ref d7,.int 0,.int 300,.int 301,.int (0-1),.int (10^(30:Int).toNat)]):=ae;have F2:=F1.same (s1.trans (s2.trans (s3.trans s4)));generalize (upd (upd (upd (upd H1 t5 (.tup [.int 2])) l6 (.lst [])) d7 (.dK [])) L (.lst [.non,.bl true,.bl false,.str "3",.ref t5,.ref l6,.ref d7,.int 0,.int 300,.int 301,.int (0-1),.int (10^(30:Int).toNat)]))=H2 at e1 e2 e3 eL F2 |-;clear s1 s2 s3 s4 XZ X0 X1 hL F1;obtain⟨lr,xr,er,IY,IZ⟩:=F2.r;refine⟨_,rfl,r,lr,xr,12,rfl,er,IY,IZ,by decide,by decide,λz l' r' z0 z12 r0 r1=>?_⟩
 have Uh:L≠r:=λq=>by rw[q,er] at eL;cases eL
 have sb:SameBut r H2 (upd H2 r (.lst [.int l',.int r'])):=λb u e nb=>by rw[ai nb];exact e
 have R3:aE (upd H2 r (.lst [.int l',.int r'])) r:=⟨l',r',ae,r0,r1⟩;have g1:=(DO.tup e1).but F2.r sb;have g2:=(DO.lst e2).but F2.r sb;have g3:=(DO.dic e3).but F2.r sb;have F3:=F2.but sb R3;have MH:=sb _ _ eL Uh;generalize upd H2 r (.lst [.int l',.int r'])=H3 at sb R3 g1 g2 g3 F3 MH |-
 have yy:∃y T d,mR [V.non,.bl true,.bl false,.str "3",.ref t5,.ref l6,.ref d7,.int 0,.int 300,.int 301,.int (0-1),.int (10^(30:Int).toNat)] z=some y/\DO H3 y T d:=by
  rcases(by omega:z=0\/z=1\/z=2\/z=3\/z=4\/z=5\/z=6\/z=7\/z=8\/z=9\/z=10\/z=11) with q|q|q|q|q|q|q|q|q|q|q|q <;> subst q
  ·exact⟨_,_,_,rfl,.non⟩
  ·exact⟨_,_,_,rfl,.bl _⟩
  ·exact⟨_,_,_,rfl,.bl _⟩
  ·exact⟨_,_,_,rfl,.str⟩
  ·exact⟨_,_,_,rfl,g1⟩
  ·exact⟨_,_,_,rfl,g2⟩
  ·exact⟨_,_,_,rfl,g3⟩
  ·exact⟨_,_,_,rfl,.int (b2 (by decide))⟩
  ·exact⟨_,_,_,rfl,.int (b2 (by decide))⟩
  ·exact⟨_,_,_,rfl,.int (b2 (by decide))⟩
  ·exact⟨_,_,_,rfl,.int (b2 (by decide))⟩
  ·exact⟨_,_,_,rfl,.int (b2 (by decide +kernel))⟩
 obtain⟨y,T',d',ey,gy⟩:=yy;refine⟨L,_,z,y,rfl,rfl,ba.of MH,ey,fin y T' d' H3 ⟨F3.y,gy,F3.r,F3.s,F3.t⟩⟩
end
noncomputable def zY (K:Frag)(CF Pt:Addr):TS:=λD σ H=>∃(sa fl r:Addr)(ns:List Int)(p:Int)(o1 o5 o6 o7 o8 o9 Hz:Option V),
 σ=[some (.ref sa),o1,some (.ref r),some (.int p),some (.ref fl),o5,o6,o7,o8,o9,Hz]/\FP p/\Fb K CF Pt p sa fl r ns H/\Nx K sa ns Pt D
noncomputable abbrev acN:TS:=iO (jB (pD λi j=>V.int (i+j)) (tC (.int 1)) (gH Eb [] (λ_ _ _=>False) (aQ (cC 2) (aQ (tC (.int 3)) tW)))) (aZ 5)
noncomputable abbrev acO:TS:=iO (jB (pD λi j=>V.int (i-j)) (gH Eb [] (λ_ _ _=>False) (aQ (cC 2) (aQ (tC (.int 420)) tW))) (tC (.int 20))) (aZ 7)
section
variable {P:zO}{w:World}{K:PySem.W.Frag}{mg:yN}{base:Heap}
variable {fa:Addr}{A:Around}{outer:List Env}{s0:Fp}{H0:Hp}{E0:XK}{CS C CF GH ND NF GK GL GN cc Pt:Addr}{Ge Gf Gg:vH}
theorem Aa (GB:Fq 9 (XL P w K mg base fa (.ref cc) A outer s0 H0 E0).A)(W:B5 P w K mg base CS C CF GH ND NF GK GL GN cc Pt Ge Gf Gg):PS (XL P w K mg base fa (.ref cc) A outer s0 H0 E0) (mz 3) acN:=by
 obtain⟨RI,JV,JW,JX,JY,JZ⟩:=W.take;have Gb:=GB.mono (show 1<=9 by decide);exact(@aM _ _ 5 _ _ _ _ fL.nd rfl (Or.inl rfl) (@aH _ _ _ _ _ _ _ _ cV ah (av JW Gb (by rfl) JY JZ JX .nil af (@aj _ _ _ _ _ (pv 2) (@aj _ _ _ _ _ ah ag rfl) rfl))) rfl (Or.inl rfl))
theorem Bi (GB:Fq 9 (XL P w K mg base fa (.ref cc) A outer s0 H0 E0).A)(W:B5 P w K mg base CS C CF GH ND NF GK GL GN cc Pt Ge Gf Gg):PS (XL P w K mg base fa (.ref cc) A outer s0 H0 E0) (mz 5) acO:=by
 obtain⟨RI,JV,JW,JX,JY,JZ⟩:=W.take;have Gb:=GB.mono (show 1<=9 by decide);exact(@aM _ _ 7 _ _ _ _ fL.nd rfl (Or.inr rfl) (@aH _ _ _ _ _ _ _ _ gU (av JW Gb (by rfl) JY JZ JX .nil af (@aj _ _ _ _ _ (pv 2) (@aj _ _ _ _ _ ah ag rfl) rfl)) ah) rfl (Or.inl rfl))
theorem CD:jf.drop 3=mz 3::mz 4::mz 5::mz 6::jf.drop 7:=rfl
theorem xb {a b c d:Stmt}{l m:uH}{ta tb tc td tl:TS}(e:m=a::b::c::d::l)(ha:PS X a ta)(hb:PS X b tb)(hc:PS X c tc)(hd:PS X d td)(hl:hV X l tl):hV X m (lF ta (lF tb (lF tc (lF td tl)))):=by
 subst e;exact ao ha (ao hb (ao hc (ao hd hl)))
theorem v3 (GB:Fq 9 (XL P w K mg base fa (.ref cc) A outer s0 H0 E0).A)(W:B5 P w K mg base CS C CF GH ND NF GK GL GN cc Pt Ge Gf Gg):hV (XL P w K mg base fa (.ref cc) A outer s0 H0 E0) (jf.drop 3) (zY K CF Pt):=by
 have h3:=@Aa P w K mg base fa A outer s0 H0 E0 CS C CF GH ND NF GK GL GN cc Pt Ge Gf Gg GB W;have h4:=@AJ P w K mg base fa A outer s0 H0 E0 CS C CF GH ND NF GK GL GN cc Pt Ge Gf Gg GB W;have h5:=@Bi P w K mg base fa A outer s0 H0 E0 CS C CF GH ND NF GK GL GN cc Pt Ge Gf Gg GB W;have h6:=@AQ P w K mg base fa A outer s0 H0 E0 CS C CF GH ND NF GK GL GN cc Pt Ge Gf Gg GB W;have h7:=@u4 P w K mg base fa A outer s0 H0 E0 CS C CF GH ND NF GK GL GN cc Pt Ge Gf Gg GB W;have e:=CD
 revert h3 h4 h5 h6 h7 e
 generalize jf.drop 7=l;generalize jf.drop 3=m;generalize mz 3=a;generalize mz 4=b;generalize mz 5=c;generalize mz 6=d;intro h3 h4 h5 h6 h7 e;refine hV.imp' (xb e h3 h4 h5 h6 h7) λEn σ H h=>?_;obtain⟨sa,fl,r,ns,p,o1,o5,o6,o7,o8,o9,Hz,rfl,hp,F0,fin⟩:=h;obtain⟨lr,xr,er,IY,IZ⟩:=F0.r;refine⟨_,rfl,r,lr,xr,3,rfl,er,IY,IZ,by decide,by decide,λz l' r' z0 z3 r0 r1=>?_⟩;have F1:=F0.but (λb u e nb=>by rw[ai nb];exact e:SameBut r H (upd H r (.lst [.int l',.int r']))) ⟨l',r',ae,r0,r1⟩;generalize upd H r (.lst [.int l',.int r'])=H1 at F1 |-;clear er IY IZ r0 r1 F0;refine⟨_,_,rfl,rfl,?_⟩;refine⟨o1,o6,o7,o8,o9,Hz,sa,fl,r,ns,p,1+z,rfl,hp,by omega,by omega,F1,λH2 sy as F2 sr=>?_⟩;obtain⟨lr,xr,er,IY,IZ⟩:=F2.r;refine⟨_,rfl,r,lr,xr,420,rfl,er,IY,IZ,by decide,by decide,λg l' r' g0 g1 r0 r1=>?_⟩
 have sb:SameBut r H2 (upd H2 r (.lst [.int l',.int r'])):=λb u e nb=>by rw[ai nb];exact e
 have X2:=sr.but F2.r sb;have F3:=F2.but sb ⟨l',r',ae,r0,r1⟩;generalize upd H2 r (.lst [.int l',.int r'])=H3 at F3 X2 sb |-;refine⟨_,_,rfl,rfl,?_⟩
 have bg:B 200 (g-20):=by unfold B;exact Nat.lt_of_lt_of_le (by omega:(g-20).natAbs<2^20) (Nat.pow_le_pow_right (by decide) (by decide))
 refine⟨o1,some (.ref fl),some (.int (1+z)),o8,o9,Hz,sa,r,sy,fl,.int (g-20),_,_,p,1+z,as,[],ns,rfl,⟨X2,.int bg,F3.r,F3.s,F3.t⟩,λx' T' d' H4 F4=>?_⟩;exact⟨sa,r,sy,fl,x',T',d',p,1+z,as,[],ns,o1,_,_,_,o8,o9,Hz,rfl,by omega,by omega,F4,fin⟩
end
noncomputable def rB (K:Frag)(Pt:Addr):Sp:=λvs H Q _=>∃(a:Addr)(ns:List Int),vs=[.ref a]/\tG K H a ns/\ns.length<=63/\ux Pt H/\∀H',Q (.bl true) H'
section
variable {P:zO}{w:World}{K:PySem.W.Frag}{mg:yN}{base:Heap}
variable {fa:Addr}{A:Around}{outer:List Env}{s0:Fp}{H0:Hp}{E0:XK}{CS C CF GH ND NF GK GL GN cc Pt:Addr}{Ge Gf Gg:vH}
set_option maxHeartbeats 1000000 in
theorem xj {Q:VK}{vs:List V}(GB:Fq 9 (XL P w K mg base fa (.ref cc) A outer s0 H0 E0).A)(W:B5 P w K mg base CS C CF GH ND NF GK GL GN cc Pt Ge Gf Gg)(h:rB K Pt vs H0 Q E0):
 ∃t,hV (XL P w K mg base fa (.ref cc) A outer s0 H0 E0) (bF gc) t/\t {nx:=λ_ H'=>Q .non H',rt:=Q} (gm NW vs) H0:=by
 obtain⟨fRm,abW,FRm,bRm,mRm,kRm⟩:=W.room;obtain⟨fPr,ab1,TB,TC,TF,kPr⟩:=W.prime;have G5:=GB.mono (show 3<=9 by decide);have Gz:=GB.mono (show 2<=9 by decide);have Gb:=GB.mono (show 1<=9 by decide);obtain⟨a,ns,rfl,X3,hlen,tb,fin⟩:=h
 refine⟨_,(ao (dJ PassesOwn.never rfl (cX (by rfl) W.m_range (@aj _ _ _ _ _ (aB (acf rfl) (by rfl) W.m_max (by rfl) (@aj _ _ _ _ _ ah (@aj _ _ _ _ _ (aB (mv rfl) (by rfl) W.m_min (by rfl) (@aj _ _ _ _ _ (aB bJ (by rfl) W.m_len PySem.boot_len (@aj _ _ _ _ _ (pv 0) ag rfl)) (@aj _ _ _ _ _ ah ag rfl) rfl)) ag rfl) rfl)) ag rfl)) (aA (i:=1) fL.nd rfl (Or.inl rfl))
  (ao (@aM _ _ 2 _ _ _ _ fL.nd rfl (Or.inl rfl) (av FRm Gb (by rfl) mRm kRm bRm .nil af (@aj _ _ _ _ _ (pv 0) (@aj _ _ _ _ _ (pv 1) ag rfl) rfl)) rfl (Or.inl rfl))
  (ao (@aM _ _ 3 _ _ _ _ fL.nd rfl (Or.inl rfl) (av TB Gz (by rfl) TF kPr TC .nil af (@aj _ _ _ _ _ (pv 2) ag rfl)) rfl (Or.inl rfl))
  (ao (@aM _ _ 4 _ _ _ _ fL.nd rfl (Or.inr rfl) (m5 W.MF W.FFI G5 (by rfl) W.cF.mgC W.bFFI .nil af (@aj _ _ _ _ _ (pv 3) ag rfl)) rfl (Or.inl rfl))
  (@v3 P w K mg base fa A outer s0 H0 E0 CS C CF GH ND NF GK GL GN cc Pt Ge Gf Gg GB W)))))
  (au (ay dG))),?_⟩
 refine⟨_,rfl,a,_,rfl,.inl X3.sq,_,_,rfl,_,_,rfl,_,rfl,?_,?_,?_⟩
 ·rw[List.length_map]
  split <;> split <;> omega
 ·rw[List.length_map]
  split <;> split <;> omega
 refine iV (lo:=0) (λi σ H'=>(∃o1 o2 o3 o4 o5 o6 o7 o8 o9 Hz,σ=[some (.ref a),o1,o2,o3,o4,o5,o6,o7,o8,o9,Hz])/\tG K H' a ns/\ux Pt H') ⟨⟨_,_,_,_,_,_,_,_,_,_,rfl⟩,X3,tb⟩ ?_ ?_
 ·rintro i σ G0 hi ⟨⟨o1,o2,o3,o4,o5,o6,o7,o8,o9,Hz,rfl⟩,Um,X4⟩
  have ab3:i<40:=by
   rw[List.length_map] at hi
   split at hi <;> split at hi <;> omega
  refine⟨_,rfl,_,rfl,a,ns,0+(i:Int),rfl,Um.sq,hlen,by omega,by omega,λr l1 r1 Rv Gb Gz=>?_⟩;have S1:=aq (o:=.lst [.int l1,.int r1]) Rv;have Uo:=Um.kp (Kp.of S1);have Uq:=X4.same S1;have R1:aE (upd G0 r (.lst [.int l1,.int r1])) r:=⟨l1,r1,ae,Gb,Gz⟩;generalize (upd G0 r (.lst [.int l1,.int r1]))=G1 at Uo Uq R1 |-;clear Um X4 Rv S1;refine⟨_,rfl,r,rfl,R1,λp G2 hp R2 S2=>?_⟩;have sc2:=Uo.but R1 S2;have tb2:=jD Uq R1 S2;clear Uo Uq S2 R1;refine⟨_,rfl,λfl F6 hfl Ur Gw=>?_⟩;refine qI hfl Ur Gw hp λG3 S3 hf3=>?_;exact⟨a,fl,r,ns,p,_,_,_,_,_,_,_,rfl,hp,⟨⟨F6,hf3⟩,R2.same S3,sc2.kp (Kp.of S3),tb2.same S3⟩,λσ' Iw h1 h2 h3=>⟨h1,h2,h3⟩⟩
 ·rintro σ H' ⟨⟨o1,o2,o3,o4,o5,o6,o7,o8,o9,Hz,rfl⟩,_,_⟩;exact fin _
theorem AY {oc kV doc pm ct:Value}{od an:zR}{Gp:Bp}(lk:K.lookup f=some ⟨oc,od,.func (fnOf "law" "law" (b9 gc) (bF gc) (ak gc) .none kV doc pm an (.ref cc) ct),Gp⟩)(GW:codeIn K (.ref cc) "law"=true)
 (W:B5 P w K mg base CS C CF GH ND NF GK GL GN cc Pt Ge Gf Gg):Ef P w K mg base (aO P w) 10 f (fnOf "law" "law" (b9 gc) (bF gc) (ak gc) .none kV doc pm an (.ref cc) ct) ["_law_script"] (rB K Pt):=by
 refine rQ lk GW fL (λvs H Q E h=>?_) λA outer s H vs Q E hr HS=>?_
 ·obtain⟨a,ns,rfl,_⟩:=h;rfl
 ·obtain⟨t,h,q⟩:=xj (fa:=f) (A:=A) (outer:=outer) (s0:=s) (H0:=H) (E0:=E) hr W HS;exact⟨t,h.nox,q⟩
end
end K26
namespace Hd
open PySem PySem.W PyProof.Rows
noncomputable def oE (K:Frag)(x qual:Str)(st:Stmt)(f:Addr):Prop:=∃(oc:Value)(od:zR)(kV doc pm:Value)(an:zR)(FV ct:Value)(Gp:Bp),
 K.lookup f=some ⟨oc,od,.func (fnOf x qual (L2.b9 st) (L2.bF st) (L2.ak st) .none kV doc pm an FV ct),Gp⟩/\codeIn K FV qual=true/\keepIn K (.ref f)=true
variable {K:Frag}{v:Option (Option Value)}{x qual:Str}{st:Stmt}
theorem p9 (h:aL K v=due x qual st)(b:cB K v qual=true):v=some (some (.ref (c8 v)))/\oE K x qual st (c8 v):=by
 unfold aL at h;obtain⟨fd,e,s⟩:=Option.map_eq_some_iff.mp (show(jG K v).map xK=some _ from h);unfold cB at b;rw[e] at b;rw[Bool.and_eq_true] at b;unfold jG at e
 split at e
 ·rename_i f
  split at e
  ·rename_i oc od X5 Gp hl
   cases e
   refine⟨rfl,oc,od,fd.kwdefaults,fd.doc,fd.pyModule,fd.annotations,fd.code,fd.closureTuple,Gp,?_,b.2,b.1⟩;show K.lookup f=_;rw[hl];obtain⟨n,q,p,bd,sc,g,c,dv,kv,dc,pm,an,cd,ct,bl⟩:=fd;unfold xK at s;simp only[Prod.mk.injEq] at s;obtain⟨rfl,rfl,rfl,rfl,rfl,rfl,rfl,rfl,rfl⟩:=s;rfl
  ·cases e
 ·cases e
variable {f:Addr}
theorem oE.fn (d:oE K x qual st f):∃fd,L2.xR K x qual st f fd:=by
 obtain⟨oc,od,kV,doc,pm,an,FV,ct,Gp,l,c,k⟩:=d;exact⟨_,L2.acA l c k⟩
theorem oE.keep (d:oE K x qual st f):keepIn K (.ref f)=true:=by
 obtain⟨oc,od,kV,doc,pm,an,FV,ct,Gp,l,c,k⟩:=d;exact k
noncomputable def uX (K:Frag)(x qual:Str)(st:Stmt)(f T:Addr):Prop:=∃(oc:Value)(od:zR)(kV doc pm:Value)(an:zR)(FV ct:Value)(Gp:Bp),
 K.lookup f=some ⟨oc,od,.func (fnOf x qual (L2.b9 st) (L2.bF st) (L2.ak st) (.ref T) kV doc pm an FV ct),Gp⟩/\codeIn K FV qual=true/\keepIn K (.ref f)=true
theorem iC (h:fW K v=due x qual st)(b:cB K v qual=true)(d:oK K v=true):v=some (some (.ref (c8 v)))/\uX K x qual st (c8 v) (lC K v):=by
 unfold fW at h;obtain⟨fd,e,s⟩:=Option.map_eq_some_iff.mp (show(jG K v).map (λfd=>xK {fd with defaults:=.none})=some _ from h)
 have hd:fd.defaults=.ref (lC K v):=by
  unfold oK Dc at d;unfold lC Dc;rw[e] at d |-;dsimp only at d |-
  cases q:fd.defaults with
  |ref a=>rfl
  |_=>rw[q] at d;cases d
 unfold cB at b;rw[e] at b;rw[Bool.and_eq_true] at b;generalize lC K v=T at hd;unfold jG at e
 split at e
 ·rename_i f
  split at e
  ·rename_i oc od X5 Gp hl
   cases e
   refine⟨rfl,oc,od,fd.kwdefaults,fd.doc,fd.pyModule,fd.annotations,fd.code,fd.closureTuple,Gp,?_,b.2,b.1⟩;show K.lookup f=_;rw[hl];obtain⟨n,q,p,bd,sc,g,c,dv,kv,dc,pm,an,cd,ct,bl⟩:=fd;unfold xK at s;simp only[Prod.mk.injEq] at s;have hd:dv=.ref T:=hd;subst hd;obtain⟨rfl,rfl,rfl,rfl,rfl,rfl,rfl,_,rfl⟩:=s;rfl
  ·cases e
 ·cases e
theorem uX.fn {T:Addr}(d:uX K x qual st f T):∃fd,L2.Ca K x qual st f fd T:=by
 obtain⟨oc,od,kV,doc,pm,an,FV,ct,Gp,l,c,k⟩:=d;exact⟨_,L2.xY l c k⟩
theorem uX.keep {T:Addr}(d:uX K x qual st f T):keepIn K (.ref f)=true:=by
 obtain⟨oc,od,kV,doc,pm,an,FV,ct,Gp,l,c,k⟩:=d;exact k
noncomputable def Eh (K:Frag)(x qual:Str)(st:Stmt)(f c:Addr):Prop:=∃(oc:Value)(od:zR)(kV doc pm:Value)(an:zR)(ct:Value)(Gp:Bp),
 K.lookup f=some ⟨oc,od,.func (fnOf x qual (L2.b9 st) (L2.bF st) (L2.ak st) .none kV doc pm an (.ref c) ct),Gp⟩/\codeIn K (.ref c) qual=true/\keepIn K (.ref f)=true
theorem rP {cc:Addr}(h:aL K v=due x qual st)(b:cB K v qual=true)(d:w8 K v cc=true):v=some (some (.ref (c8 v)))/\Eh K x qual st (c8 v) cc:=by
 unfold aL at h;obtain⟨fd,e,s⟩:=Option.map_eq_some_iff.mp (show(jG K v).map xK=some _ from h)
 have hd:fd.code=.ref cc:=by
  unfold w8 at d;rw[e] at d;dsimp only at d
  cases q:fd.code with
  |ref a =>
   rw[q] at d
   have:a=cc:=by simpa using d
   rw[this]
  |_=>rw[q] at d;cases d
 unfold cB at b;rw[e] at b;rw[Bool.and_eq_true] at b;unfold jG at e
 split at e
 ·rename_i f
  split at e
  ·rename_i oc od X5 Gp hl
   cases e
   have b2:codeIn K fd.code qual=true:=b.2;rw[hd] at b2;refine⟨rfl,oc,od,fd.kwdefaults,fd.doc,fd.pyModule,fd.annotations,fd.closureTuple,Gp,?_,b2,b.1⟩;show K.lookup f=_;rw[hl];obtain⟨n,q,p,bd,sc,g,c,dv,kv,dc,pm,an,cd,ct,bl⟩:=fd;unfold xK at s;simp only[Prod.mk.injEq] at s;have hd:cd=.ref cc:=hd;subst hd;obtain⟨rfl,rfl,rfl,rfl,rfl,rfl,rfl,rfl,rfl⟩:=s;rfl
  ·cases e
 ·cases e
theorem nZ:∀{vs:xF}{ns:List Int},rj vs ns=true->L2.aR (ns.map L2.V.int) vs
 |[],[],_=>.nil
 |v::vs,n::ns,h=>by
  unfold rj at h;rw[Bool.and_eq_true] at h;obtain⟨t,rfl⟩:=jK h.1;exact .cons ⟨t,rfl⟩ (nZ h.2)
 |[],_::_,h=>by cases h
 |_::_,[],h=>by cases h
theorem sS {a:Addr}{ns:List Int}(h:vi K a ns=true)(H:L2.Hp):L2.bx K H a (ns.map L2.V.int):=by
 unfold vi at h
 split at h
 ·rename_i o ho
  rw[Bool.and_eq_true] at h;obtain⟨h1,h2⟩:=h
  split at h1
  ·rename_i T hT
   split at h2
   ·rename_i its n hd
    rw[Bool.and_eq_true] at h2
    have:T="tuple":=by simpa using h1
    subst this;exact .inr ⟨o,its,n,ho,hT,hd,of_decide_eq_true h2.2,nZ h2.1⟩
   ·cases h2
  ·cases h1
 ·cases h
theorem sR (h:vo K=true):L2.pF K:=by
 unfold vo at h
 split at h
 ·rename_i o ho
  split at h
  ·rename_i T hT
   have:T="dict":=by simpa using h
   subst this;exact⟨o,ho,hT⟩
  ·cases h
 ·cases h
open L2 in
theorem tm {l:OpenLaw}{n k:Nat}{q:zO}{loose:nO}{XP:(Str->Option Value)->Heap->Prop}{YP:World->Heap->Prop}{d:DefRec}{CX:World->Et}{sp:Frag->Sp}{x:Str}{φ:Frag->Prop}{tabs:Frag->List (Addr×Addr)}
 (hn:l.most=some n)(Rk:n<=sizeLine)(MW:d.params.defaults=[])(hr:Fq k callerA)
 (hY:∀(w:World)(h:Heap),YP w h->∃K:Frag,φ K/\K.In h)
 (hT:∀(w:World)(s₀:Fp)(mg mb:yN)(h:Heap)(K:Frag),φ K->Ground q loose [] XP w s₀ mg mb h->K.In h->TabsAt (tabs K) h/\∀r∈tabs K,K.lookup r.2=none)
 (F:∀(w:World)(K:Frag)(mg:yN)(fa:Addr)(h:Heap),φ K->K.In h->h.Ns mainGlobals mg->mg d.name=some (.ref fa) →
  ∃fd:FuncData,(∀(s:Fp)(u:Value),BindsTo s fd ⟨[u],[]⟩ [(x,u)])/\∀base:Heap,K.In base->base.Ns mainGlobals mg->wO (tabs K) mg base->Ef l.prog w K mg base (CX w) k fa fd [x] (sp K))
 (HS:∀(K:Frag)(H:Hp)(a:Addr)(ns:List Int),ns.length<=n->xn (tabs K) H->ba K H a (ns.map V.int)->sp K [.ref a] H (λv _=>v=.bl true) λ_ _ _=>False)
 (Sx:∀(w:World)(H:Hp)(s:Fp)(e:Value)(s':Fp),CX w [] H s (λ_ _ _=>False) e s'->False):
 WalkO q loose XP YP l.row.toRowW d [] (λf vs=>PySem.call f vs):=by
 refine WC.abr hn MW λw s₀ s₁ mg mb fa o pm cd doc a vs ns G Y ho hd GW Sb La hints hlen hg=>?_;obtain⟨K,hφ,KX⟩:=hY w _ Y;obtain⟨fd,hb,hF⟩:=F w K mg fa _ hφ KX G.T.g Sb;obtain⟨t1,t2⟩:=hT w s₀ mg mb _ K hφ G KX;exact uv KX G.T.g G.T.b G.T.builtins G.T.nolimit hg La hints (Nat.le_trans hlen Rk) hr t1 t2 G.T.bmain hF hb (λH hO hS=>HS K H a ns hlen hO hS) λH e s'=>Sx w H s₁ e s'
end Hd
namespace K26
open PySem L2 PySem.W Nm
open Hd (gv ga fv c8 en cw de bh gY cu ir b7 cB aL fW due oK lC ph gz uE jx Ag jK pq gB vi vo w8 p9 iC rP sS sR)
section
variable {α:Type}{M:List α->Prop}
theorem uC (h:∀a,M [a]):∀us:List α,us.length=1->M us
 |[a],_=>h a
theorem xo (h:∀a b,M [a,b]):∀us:List α,us.length=2->M us
 |[a,b],_=>h a b
theorem gN (h:∀a b c,M [a,b,c]):∀us:List α,us.length=3->M us
 |[a,b,c],_=>h a b c
theorem xa (h:∀a b c d,M [a,b,c,d]):∀us:List α,us.length=4->M us
 |[a,b,c,d],_=>h a b c d
theorem Ep (h:∀a b c d e,M [a,b,c,d,e]):∀us:List α,us.length=5->M us
 |[a,b,c,d,e],_=>h a b c d e
end
section
variable {K:Frag}{f T:Addr}{fd:vH}{oT:Obj}{t:Tok}{n:Nat}
theorem B6 (F:Ca K "__init__" "Field.__init__" wM f fd T)(lT:K.lookup T=some oT)(dT:oT.data=.seq #[.int 0 t] n):L2.az K fd Ap []:=by
 obtain⟨oc,od,kV,doc,pm,an,FV,ct,Gp,rfl,lk,GW⟩:=F.ex;intro s us KX hl
 cases us with
 |nil=>simp at hl
 |cons a0 r1 =>
  cases r1 with
  |nil=>simp at hl
  |cons a1 r2 =>
   cases r2 with
   |nil=>exact binds_K KX rfl lT dT rfl rfl
   |cons a r=>simp at hl
theorem Be (F:Ca K "__init__" "Sum.__init__" qO f fd T)(lT:K.lookup T=some oT)(dT:oT.data=.seq #[.none] n):L2.az K fd tj []:=by
 obtain⟨oc,od,kV,doc,pm,an,FV,ct,Gp,rfl,lk,GW⟩:=F.ex;intro s us KX hl
 cases us with
 |nil=>simp at hl
 |cons a0 r1 =>
  cases r1 with
  |nil=>simp at hl
  |cons a1 r2 =>
   cases r2 with
   |nil=>simp at hl
   |cons a2 r3 =>
    cases r3 with
    |nil=>exact binds_K KX rfl lT dT rfl rfl
    |cons a r=>simp at hl
theorem ze (F:Ca K "__init__" "System.__init__" DP f fd T)(lT:K.lookup T=some oT)(dT:oT.data=.seq #[.none] n):L2.az K fd tE [.none]:=by
 obtain⟨oc,od,kV,doc,pm,an,FV,ct,Gp,rfl,lk,GW⟩:=F.ex;intro s us KX hl
 cases us with
 |nil=>simp at hl
 |cons a0 r1 =>
  cases r1 with
  |nil=>simp at hl
  |cons a1 r2 =>
   cases r2 with
   |nil=>simp at hl
   |cons a2 r3 =>
    cases r3 with
    |nil=>simp at hl
    |cons a3 r4 =>
     cases r4 with
     |nil=>exact binds_K KX rfl lT dT rfl rfl
     |cons a r=>simp at hl
theorem FF (F:Ca K "is_filling" "is_filling" DB f fd T)(lT:K.lookup T=some oT)(dT:oT.data=.seq #[.bool false] n):L2.az K fd zV [.bool false]:=by
 obtain⟨oc,od,kV,doc,pm,an,FV,ct,Gp,rfl,lk,GW⟩:=F.ex;intro s us KX hl
 cases us with
 |nil=>simp at hl
 |cons a0 r1 =>
  cases r1 with
  |nil=>simp at hl
  |cons a1 r2 =>
   cases r2 with
   |nil=>exact binds_K KX rfl lT dT rfl rfl
   |cons a r=>simp at hl
end
section
variable {K:Frag}{x qual n:Str}{st:Stmt}{ps:nO}
theorem dX {mg:yN}{h:Heap}(X:K.In h)(G:h.Ns mainGlobals mg)(s:aL K (gv K n)=due x qual st)(b:cB K (gv K n) qual=true)(hb:∀(kV doc pm:Value)(an:zR)(FV ct:Value)(us:xF),us.length=ps.length->bindArgs (PySem.W.fnOf x qual (b9 st) (bF st) (ak st) .none kV doc pm an FV ct) ⟨us,[]⟩=pure (ps.zip us)):∃fd,xR K x qual st (ga K n) fd/\L2.az K fd ps []/\mg n=some (.ref (ga K n))/\keepIn K (.ref (ga K n))=true:=by
 obtain⟨e,d⟩:=p9 s b;obtain⟨fd,F⟩:=d.fn;exact⟨fd,F,F.binds hb,mg_of X G e,d.keep⟩
theorem xJ {c:Str}(s:aL K (fv K c n)=due x qual st)(b:cB K (fv K c n) qual=true)(i:isFn K (.ref (c8 (fv K c n)))=true)(hb:∀(kV doc pm:Value)(an:zR)(FV ct:Value)(us:xF),us.length=ps.length->bindArgs (PySem.W.fnOf x qual (b9 st) (bF st) (ak st) .none kV doc pm an FV ct) ⟨us,[]⟩=pure (ps.zip us)):∃fd,xR K x qual st (c8 (fv K c n)) fd/\L2.az K fd ps []/\L2.Meth K (ga K c) n (c8 (fv K c n))/\findIn K (.ref (ga K c)) n=some (some (.ref (c8 (fv K c n))))/\isFn K (.ref (c8 (fv K c n)))=true:=by
 obtain⟨e,d⟩:=p9 s b;obtain⟨fd,F⟩:=d.fn;exact⟨fd,F,F.binds hb,⟨e,i,d.keep⟩,e,i⟩
end
noncomputable def vO (_:World)(h:Heap):Prop:=∃K:Frag,oM K=qM/\K.In h
theorem yl (w:World)(s:Fp)(e:oM (Hd.sY qk s.heap)=qM):vO w s.heap:=⟨_,e,Hd.mY _ _⟩
theorem p6 (w:World)(h h':Heap)(y:vO w h)(k:∀(b:Addr)(o:Obj),h.get? b=some o->h'.get? b=some o):vO w h':=let⟨K,e,i⟩:=y;⟨K,e,λa o q=>k a o (i a o q)⟩
set_option maxHeartbeats 0 in
theorem qd {l:OpenLaw}{w:World}{K:Frag}{mg:yN}{h:Heap}{fa:Addr}(o:oM K=qM)(X:K.In h)(G:h.Ns mainGlobals mg)(LD:mg "law"=some (.ref fa)):
 ∃fd:FuncData,(∀(s:Fp)(v:Value),BindsTo s fd ⟨[v],[]⟩ [("_law_script",v)])/\∀base:Heap,K.In base->base.Ns mainGlobals mg->wO [gX K] mg base->Ef l.prog w K mg base (aO l.prog w) 10 fa fd ["_law_script"] (rB K (gX K).2):=by
 obtain⟨o1,o2⟩:=Prod.mk.inj (show(jO K,_)=(true,_) from o);simp only[List.cons.injEq,and_true] at o2;obtain⟨s0,s1,s2,s3,s4,s5,s6,s7,s8,s9,M8,RK,vS,s13,s14,s15,s16,s17,s18,s19,s20,s21,s22,s23,s24,s25,s26,s27,s28,s29,s30,s31,s32,s33,s34,s35,s36,s37,s38,s39,s40,s41,s42,s43,s44,s45,s46,s47,s48,s49,s50,s51,s52,s53,s54,s55,s56,s57,s58,s59,s60⟩:=o2;unfold jO at o1;simp only[Bool.and_eq_true] at o1;obtain⟨g0,g1,g2,g3,g4,g5,g6,g7,g8,g9,LI,Us⟩:=o1;unfold EH at g0;simp only[Bool.and_eq_true] at g0;obtain⟨h0,h1,h2,h3,h4,h5,h6,h7,h8,h9,h10,h11,h12,h13,h14,h15⟩:=g0;unfold Fg at g1;simp only[Bool.and_eq_true] at g1;obtain⟨h16,h17,h18,h19,h20,h21,h22,h23,h24,h25,h26,h27,h28,h29,h30,h31⟩:=g1;unfold EX at g2;simp only[Bool.and_eq_true] at g2;obtain⟨h32,h33,h34,h35,h36,h37,h38,h39,h40,h41,h42,h43,h44,h45,h46,h47⟩:=g2;unfold E8 at g3;simp only[Bool.and_eq_true] at g3;obtain⟨h48,h49,h50,h51,h52,h53,h54,h55,h56,h57,h58,h59,h60,h61,h62,h63⟩:=g3;unfold Fk at g4;simp only[Bool.and_eq_true] at g4;obtain⟨h64,h65,h66,h67,h68,h69,h70,h71,h72,h73,h74,h75,h76,h77,h78,h79⟩:=g4;unfold Ff at g5;simp only[Bool.and_eq_true] at g5;obtain⟨h80,h81,h82,h83,h84,h85,h86,h87,h88,h89,h90,h91,h92,h93,h94,h95⟩:=g5;unfold EY at g6;simp only[Bool.and_eq_true] at g6;obtain⟨h96,h97,h98,h99,h100,h101,h102,h103,h104,h105,h106,h107,h108,h109,h110,h111⟩:=g6;unfold ES at g7;simp only[Bool.and_eq_true] at g7;obtain⟨h112,h113,h114,h115,h116,h117,h118,h119,h120,h121,h122,h123,h124,h125,h126,h127⟩:=g7;unfold Fd at g8;simp only[Bool.and_eq_true] at g8;obtain⟨h128,h129,h130,h131,h132,h133,h134,h135,h136,h137,h138,h139,h140,h141,h142,h143⟩:=g8;unfold EI at g9;simp only[Bool.and_eq_true] at g9;obtain⟨h144,h145,h146,h147,h148,h149,h150,h151,h152,h153,h154,h155,h156,h157,h158,h159⟩:=g9;unfold AX at LI;simp only[Bool.and_eq_true] at LI;obtain⟨h160,h161,h162,h163,h164,h165,h166,h167,h168,h169,h170,h171,h172,h173,h174,h175⟩:=LI;unfold CU at Us;simp only[Bool.and_eq_true] at Us;obtain⟨h176,h177,h178⟩:=Us;have m:=λ{n:Str}{v:Value}(e:nsIn K mainGlobals n=some (some v))=>mg_of X G e;have m0:=λ{n:Str}(e:nsIn K mainGlobals n=some none)=>mg_none_of X G e;have FR:=m0 (bh h0);have Kz:=m0 (bh h1);have LJ:=m0 (bh h2);have Hw:=m0 (bh h3);have KA:=m0 (bh h4);have m_len:=m0 (bh h5);have FX:=m0 (bh h6);have Gu:=m0 (bh h7);have GF:=m0 (bh h8);have F7:=m0 (bh h9);have Ga:=m0 (bh h10);have Gq:=m0 (bh h11);have m_max:=m0 (bh h12);have m_min:=m0 (bh h13);have m_range:=m0 (bh h14);have m_repr:=m0 (bh h15);have HQ:=m0 (bh h16);have N7:=m (cw h17);have J0:=m (cw h18);have Ja:=m (cw h19);have Hx:=m (cw h20);have G8:=m (cw h21);have GR:=m (cw h22);have Im:=m (cw h23);have LK:=m (cw h24);have Io:=m (cw h25);have Jb:=m (cw h26);obtain⟨KC,HJ⟩:=gB h27;have Gv:=m HJ;obtain⟨Jr,Hi⟩:=gB h28;have Gx:=m Hi;obtain⟨Js,Hj⟩:=gB h29;have Hk:=m Hj;obtain⟨Jt,Hl⟩:=gB h30;have Hm:=m Hl;obtain⟨X6,Ut,Ip,Hs,Iq⟩:=dX X G (ps:=["thing"]) s0 h31 λ_ _ _ _ _ _=>uC λ_=>rfl;obtain⟨X7,Uu,Uv,N8,Uw⟩:=dX X G (ps:=["thing"]) s1 h32 λ_ _ _ _ _ _=>uC λ_=>rfl;obtain⟨X8,Ux,Uy,N9,Uz⟩:=dX X G (ps:=["thing"]) s2 h33 λ_ _ _ _ _ _=>uC λ_=>rfl;obtain⟨X9,UA,UB,Oa,UC⟩:=dX X G (ps:=["field","thing"]) s3 h34 λ_ _ _ _ _ _=>xo λ_ _=>rfl;obtain⟨Yb,UD,UE,Ob,UG⟩:=dX X G (ps:=["field","terms"]) s4 h35 λ_ _ _ _ _ _=>xo λ_ _=>rfl;obtain⟨Yc,UH,UI,Oc,acX⟩:=dX X G (ps:=["term"]) s5 h36 λ_ _ _ _ _ _=>uC λ_=>rfl;obtain⟨Yd,UJ,UK,Od,UL⟩:=dX X G (ps:=["field","terms"]) s6 h37 λ_ _ _ _ _ _=>xo λ_ _=>rfl;obtain⟨Ye,UM,Oe,KD,Of⟩:=dX X G (ps:=["one","other"]) s7 h38 λ_ _ _ _ _ _=>xo λ_ _=>rfl;obtain⟨Yg,UN,UO,Og,UP⟩:=dX X G (ps:=["top","bottom"]) s8 h39 λ_ _ _ _ _ _=>xo λ_ _=>rfl;obtain⟨Yh,UQ,J5,HZ,J6⟩:=dX X G (ps:=["degree"]) s9 h40 λ_ _ _ _ _ _=>uC λ_=>rfl;obtain⟨UR,Oh,Oi,LL,Oj⟩:=dX X G (ps:=["numbers"]) M8 h41 λ_ _ _ _ _ _=>uC λ_=>rfl;obtain⟨US,Ol,Om,LM,Oo⟩:=dX X G (ps:=["sums"]) RK h42 λ_ _ _ _ _ _=>uC λ_=>rfl;obtain⟨UT,Oq,Ot,LO,Ou⟩:=dX X G (ps:=["worths","degree"]) vS h43 λ_ _ _ _ _ _=>xo λ_ _=>rfl;obtain⟨UU,Ov,Ow,LP,Ox⟩:=dX X G (ps:=["thing"]) s13 h44 λ_ _ _ _ _ _=>uC λ_=>rfl;obtain⟨UW,Oy,Oz,LQ,OA⟩:=dX X G (ps:=["places","size"]) s14 h45 λ_ _ _ _ _ _=>xo λ_ _=>rfl;obtain⟨UX,OB,OC,LS,OD⟩:=dX X G (ps:=["places","size","ways"]) s15 h46 λ_ _ _ _ _ _=>gN λ_ _ _=>rfl;obtain⟨UY,OE,OF,LV,OG⟩:=dX X G (ps:=["system","degree","thing"]) s16 h47 λ_ _ _ _ _ _=>gN λ_ _ _=>rfl;obtain⟨UZ,OH,OI,LW,OJ⟩:=dX X G (ps:=["system","degree","thing"]) s17 h48 λ_ _ _ _ _ _=>gN λ_ _ _=>rfl;obtain⟨U1,OK,OL,LX,OM⟩:=dX X G (ps:=["system","degree","filling"]) s18 h49 λ_ _ _ _ _ _=>gN λ_ _ _=>rfl;obtain⟨U2,ON,OO,LY,OP⟩:=dX X G (ps:=["system","degree","thing"]) s19 h50 λ_ _ _ _ _ _=>gN λ_ _ _=>rfl;obtain⟨U3,OQ,OR,LZ,OS⟩:=dX X G (ps:=["pairs"]) s20 h51 λ_ _ _ _ _ _=>uC λ_=>rfl;obtain⟨U4,OT,OU,L4,OV⟩:=dX X G (ps:=["totals","prime"]) s21 h52 λ_ _ _ _ _ _=>xo λ_ _=>rfl;obtain⟨U5,OW,OX,L6,OY⟩:=dX X G (ps:=["system","degree","thing"]) s22 h53 λ_ _ _ _ _ _=>gN λ_ _ _=>rfl;obtain⟨U6,OZ,O0,L7,O1⟩:=dX X G (ps:=["field","places","thing"]) s23 h54 λ_ _ _ _ _ _=>gN λ_ _ _=>rfl;obtain⟨U7,O2,O3,L8,O4⟩:=dX X G (ps:=["field","places","part","wishes"]) s24 h55 λ_ _ _ _ _ _=>xa λ_ _ _ _=>rfl;obtain⟨U8,O5,O6,L9,O7⟩:=dX X G (ps:=["field","places","uppers"]) s25 h56 λ_ _ _ _ _ _=>gN λ_ _ _=>rfl;obtain⟨U9,O8,O9,Ma,Pa⟩:=dX X G (ps:=["_law_script","_law_k"]) s26 h57 λ_ _ _ _ _ _=>xo λ_ _=>rfl;obtain⟨Va,Pb,G9,GA,He⟩:=dX X G (ps:=["_law_room_here","_law_many"]) s27 h58 λ_ _ _ _ _ _=>xo λ_ _=>rfl;obtain⟨Vb,Pc,KG,Jc,KH⟩:=dX X G (ps:=["_law_top","_law_base"]) s28 h59 λ_ _ _ _ _ _=>xo λ_ _=>rfl;obtain⟨Vc,Pd,KI,Jd,KJ⟩:=dX X G (ps:=["_law_prime_here","_law_top","_law_base"]) s29 h60 λ_ _ _ _ _ _=>gN λ_ _ _=>rfl;obtain⟨Vd,Pe,KL,Je,KN⟩:=dX X G (ps:=["_law_prime_here","_law_one","_law_other"]) s30 h61 λ_ _ _ _ _ _=>gN λ_ _ _=>rfl;obtain⟨Ve,Pf,Pg,Mb,Ph⟩:=dX X G (ps:=["_law_prime_here","_law_one","_law_other"]) s31 h62 λ_ _ _ _ _ _=>gN λ_ _ _=>rfl;obtain⟨Vf,Pj,Pk,Mc,Pl⟩:=dX X G (ps:=["_law_room_here"]) s32 h63 λ_ _ _ _ _ _=>uC λ_=>rfl;obtain⟨Vg,Pn,Po,Md,Pp⟩:=dX X G (ps:=["_law_room_here","_law_prime_here"]) s33 h64 λ_ _ _ _ _ _=>xo λ_ _=>rfl;obtain⟨Vh,Pq,Pr,Me,Pu⟩:=dX X G (ps:=["_law_room_here","_law_many","_law_share"]) s34 h65 λ_ _ _ _ _ _=>gN λ_ _ _=>rfl;obtain⟨Vi,Pw,KO,Jf,KP⟩:=dX X G (ps:=["_law_room_here","_law_prime_here","_law_many","_law_most"]) s35 h66 λ_ _ _ _ _ _=>xa λ_ _ _ _=>rfl;obtain⟨Vj,Px,KQ,Jg,KR⟩:=dX X G (ps:=["_law_prime_here","_law_terms_here"]) s36 h67 λ_ _ _ _ _ _=>xo λ_ _=>rfl;obtain⟨Vk,Py,KS,Jh,KU⟩:=dX X G (ps:=["_law_prime_here","_law_terms_here","_law_filling_here"]) s37 h68 λ_ _ _ _ _ _=>gN λ_ _ _=>rfl;obtain⟨Vl,Pz,PB,Mf,PD⟩:=dX X G (ps:=["_law_room_here","_law_many"]) s38 h69 λ_ _ _ _ _ _=>xo λ_ _=>rfl;obtain⟨Vm,PF,PH,Mg,PJ⟩:=dX X G (ps:=["_law_thing"]) s39 h70 λ_ _ _ _ _ _=>uC λ_=>rfl;obtain⟨Vn,PL,PM,Mh,PN⟩:=dX X G (ps:=["_law_room_here","_law_prime_here","_law_many","_law_most","_law_planted"]) s40 h71 λ_ _ _ _ _ _=>Ep λ_ _ _ _ _=>rfl;obtain⟨Vo,PQ,PR,Mi,PU⟩:=dX X G (ps:=["_law_room_here","_law_many","_law_most","_law_planted"]) s41 h72 λ_ _ _ _ _ _=>xa λ_ _ _ _=>rfl;obtain⟨Vp,PV,PY,Mj,PZ⟩:=dX X G (ps:=["_law_room_here","_law_prime_here","_law_many","_law_most"]) s42 h73 λ_ _ _ _ _ _=>xa λ_ _ _ _=>rfl;obtain⟨Vq,P4,P5,Ml,P6⟩:=dX X G (ps:=["_law_call"]) s43 h74 λ_ _ _ _ _ _=>uC λ_=>rfl;obtain⟨Vr,P7,P8,Mm,P9⟩:=dX X G (ps:=["_law_way","_law_system","_law_degree","_law_thing"]) s44 h75 λ_ _ _ _ _ _=>xa λ_ _ _ _=>rfl;obtain⟨Vs,Qa,Qb,Mn,Qc⟩:=dX X G (ps:=["_law_way","_law_degree"]) s45 h76 λ_ _ _ _ _ _=>xo λ_ _=>rfl;obtain⟨Yi,Vt,Vu,Vv,acY,acZ⟩:=xJ (ps:=["self"]) s46 h77 h78 λ_ _ _ _ _ _=>uC λ_=>rfl;obtain⟨Yj,Vw,Vx,Vy,ac0,ac1⟩:=xJ (ps:=["self"]) s47 h79 h80 λ_ _ _ _ _ _=>uC λ_=>rfl;obtain⟨Yk,Vz,VA,ac2,VB,VC⟩:=xJ (ps:=["self","other"]) s48 h81 h82 λ_ _ _ _ _ _=>xo λ_ _=>rfl;obtain⟨Yl,VD,VE,VF,ac3,ac4⟩:=xJ (ps:=["self","one","other"]) s49 h83 h84 λ_ _ _ _ _ _=>gN λ_ _ _=>rfl;obtain⟨Ym,VG,VH,VI,ac5,ac6⟩:=xJ (ps:=["self","top","bottom"]) s50 h85 h86 λ_ _ _ _ _ _=>gN λ_ _ _=>rfl;obtain⟨Yn,VJ,VL,VM,ac7,ac8⟩:=xJ (ps:=["self","thing"]) s51 h87 h88 λ_ _ _ _ _ _=>xo λ_ _=>rfl;obtain⟨Yo,VN,VO,VP,ac9,ada⟩:=xJ (ps:=["self"]) s52 h89 h90 λ_ _ _ _ _ _=>uC λ_=>rfl;obtain⟨Yp,VQ,VR,VS,adb,ade⟩:=xJ (ps:=["self"]) s53 h91 h92 λ_ _ _ _ _ _=>uC λ_=>rfl;obtain⟨Yq,VT,VU,VW,adf,adg⟩:=xJ (ps:=["self"]) s54 h93 h94 λ_ _ _ _ _ _=>uC λ_=>rfl;obtain⟨Yr,VX,Qd,Qe,adh,adi⟩:=xJ (ps:=["self"]) s55 h95 h96 λ_ _ _ _ _ _=>uC λ_=>rfl;obtain⟨Qf,Qg⟩:=iC s56 h97 h99;have VY:=h98;have adj:L2.Meth K _ "__init__" _:=⟨Qf,h98,Qg.keep⟩;obtain⟨Ys,Qh⟩:=Qg.fn;obtain⟨adk,adl,adm,Qi,Qj,Qk⟩:=gz h100;obtain⟨Ql,Qm⟩:=iC s57 h101 h103;have VZ:=h102;have adn:L2.Meth K _ "__init__" _:=⟨Ql,h102,Qm.keep⟩;obtain⟨Yt,Qn⟩:=Qm.fn;obtain⟨ado,adp,adq,Qo,Qp,Qq⟩:=gz h104;obtain⟨Qr,Qs⟩:=iC s58 h105 h107;have V0:=h106;have ads:L2.Meth K _ "__init__" _:=⟨Qr,h106,Qs.keep⟩;obtain⟨Yu,Qt⟩:=Qs.fn;obtain⟨adt,adu,adv,Qu,Qv,Qw⟩:=gz h108;obtain⟨V1,Qx⟩:=iC s59 h109 h110;have Qy:=m V1;have V2:=Qx.keep;obtain⟨Yv,Qz⟩:=Qx.fn;obtain⟨adw,adx,ady,QA,QB,QC⟩:=gz h111;have QD:=Hd.aaa QC;subst QD;have V3:=FF Qz QA QB;have QE:=jx Qk;subst QE;obtain⟨adz,QF⟩:=jK Qq;subst QF;have QG:=jx Qw;subst QG;have bSI:=Be Qh Qi Qj;have bFI:=B6 Qn Qo Qp;have V4:=ze Qt Qu Qv;have N:uf mg:=⟨FR,Kz,LJ⟩;have cF:oO K mg (ga K "Field"):=⟨⟨h112,h113,h114,cu h115⟩,bh h116,J0,(Bool.and_eq_true_iff.mpr h117),cu h118,cu h119,b7 h120,b7 h121⟩;have c:yw K mg (ga K "Sum"):=⟨⟨h122,h123,h124,cu h125⟩,bh h126,bh h127,N7⟩;have cQ:DY K mg (ga K "Sum"):=⟨c,(Bool.and_eq_true_iff.mpr h128),cu h129,cu h119,b7 h120,b7 h130⟩;have cS:pV K mg (ga K "System"):=⟨⟨h131,h132,h133,cu h134⟩,bh h135,bh h136,bh h137,bh h138,Ja,(Bool.and_eq_true_iff.mpr h139),cu h140,cu h119,b7 h120,b7 h141⟩;have hP:=sS h142;have RF:Refs K mg _ _ _ _:=⟨Hx,G8,GR,Im,Hw,⟨h143,cu h144,bh h145,cu h146,b7 h147,b7 h148⟩,⟨h149,cu h150,bh h151,cu h152,b7 h153,b7 h154⟩,b7 h155,b7 h156,b7 h157,b7 h158,b7 h159,b7 h160,b7 h161,b7 h162,b7 h163,b7 h164⟩;obtain⟨e_A,d_A⟩:=rP s60 h169 h170;have V5:=LD.symm.trans (m e_A)
 cases V5
 obtain⟨adE,adF,V6,QH,V7,V8,V9,Yw,l_A,c_A,_⟩:=d_A;refine⟨fnOf "law" "law" (b9 gc) (bF gc) (ak gc) .none V6 QH V7 V8 (.ref (gX K).1) V9,λs v=>.of_eq rfl,λbase _ _ BT=>?_⟩;have Ir:=wN (P:=l.prog) (w:=w) (base:=base) Ut N;have QI:=A3 (P:=l.prog) (w:=w) (base:=base) UM KA;have Wa:=tV UN QI Oe KD Of;have Wb:=pS VG cF Gv Wa UO Og UP;have Wc:=yo VD cF Wb VH VI;have Wd:=ym Qn cF Ir Ip Hs Iq Gv Jb hP Io h165;have We:=oH VJ cF Gv N FX m_len QI Oe KD Of Ir Ip Hs Iq;have Wf:=BA (P:=l.prog) (w:=w) (base:=base) Vz cF N;have Wg:=wu (P:=l.prog) (w:=w) (base:=base) VN cF;have Wh:=vn Uu Gx Ir Ip Hs Iq;have Wi:=qH Ux FR FX Gu GF Wh Uv N8 Uw;have Wj:=y7 UA cF FR FX m_len Wi Uy N9 Uz We VL VM;have Wk:=ql (P:=l.prog) (w:=w) (base:=base) UH m_len;have Wl:=qC UD FR F7 Ga Wj UB Oa UC;have Wm:=yu UJ cF Gq Wc VE VF Wk UI Oc;have Wn:=v9 Qh c Wm UK Od UL Wl UE Ob UG;have MkS:L2.Mk K _ _:=⟨h173,Qf,VY,h174⟩;have MkF:L2.Mk K _ _:=⟨h175,Ql,VZ,h176⟩;have MkY:L2.Mk K _ _:=⟨h177,Qr,V0,h178⟩;have Wo:=ug (P:=l.prog) (w:=w) (base:=base) (CF:=ga K "Field") Vt c;have Wq:=xC (P:=l.prog) (w:=w) (base:=base) Vw c m_max;have QJ:=Aj OZ cQ cF FR Wf VA VB VC Wo Vu Vv Wq Vx Vy;have QK:=Cz O2 FR F7 Ga m_len Hm QJ O0 L7 O1;have QL:=BG (P:=l.prog) (w:=w) (base:=base) (mg:=mg) O5;have Wr:=B0 Qt cS cF FR Gx Ir Ip Hs Iq QK O3 L8 O4 QL O6 L9 O7;have Ws:=BW (P:=l.prog) (w:=w) (base:=base) (CF:=ga K "Field") VQ cS;have Wt:=Cw (P:=l.prog) (w:=w) (base:=base) (CF:=ga K "Field") VT cS;have QM:=Co (P:=l.prog) (w:=w) (base:=base) (CF:=ga K "Field") VX cS F7;have J7:=CO UQ Ir Ip Hs Iq Hk G8 h166;have QN:=AS Oq m_len J7 J5 HZ J6;have QO:=yR Ov FR FX Gu Ir Ip Hs Iq;have Wu:=Ck Qz QO Ow LP Ox;have QP:=B9 (P:=l.prog) (w:=w) (base:=base) OB m_range m_min;have QQ:=Cy Oy QP OC LS OD;have QR:=Da OE cS m_len FR HQ QQ Oz LQ OA Wt VU VW;have QS:=C0 OH J7 J5 HZ J6 QR OF LV OG;have QT:=Cv OK GR h167 J7 J5 HZ J6 Wu V3 Qy V2;have QU:=C5 ON cS m_len FR F7 Gu GF QM Qd Qe;have QV:=BI (P:=l.prog) (w:=w) (base:=base) (mg:=mg) Oh;have QW:=CA Ol QV Oi LL Oj;have QX:=CV OQ QW Om LM Oo;have QY:=CM (P:=l.prog) (w:=w) (base:=base) (mg:=mg) OT;have QZ:=Cj OW cS cF F7 GF J7 J5 HZ J6 QU OO LY OP QX OR LZ OS QY OU L4 OV QM Qd Qe Ws VR VS Wg VO VP;have Q1:=y6 (P:=l.prog) (w:=w) (base:=base) O8 m_len;have Hf:=yZ (P:=l.prog) (w:=w) (base:=base) (mg:=mg) Pb;have KW:=yY (P:=l.prog) (w:=w) (base:=base) Pc KA Kz;have KY:=yk Pd KW KG Jc KH;have KZ:=vP Pe KY KI Jd KJ;have Q2:=tZ Pf KY KI Jd KJ;have Q3:=tJ Pj Hf G9 GA He;have Q4:=tN Pn Hf G9 GA He KW KG Jc KH;have Q5:=wQ Pq FX m_range Hf G9 GA He;have K0:=tK Pw m_range Hf G9 GA He Q5 Pr Me Pu Q4 Po Md Pp;have K1:=wR Px Gq m_len KZ KL Je KN;have K2:=uz Py KZ KL Je KN;have Q6:=vJ Pz FX m_range Hf G9 GA He;have Q7:=uy (P:=l.prog) (w:=w) (base:=base) PF N;have Q8:=C7 PL K0 KO Jf KP K2 KS Jh KU Q2 Pg Mb Ph K1 KQ Jg KR;have Q9:=Cr PQ K0 KO Jf KP K2 KS Jh KU K1 KQ Jg KR;have Ra:=Cm PV m_range Hf G9 GA He Q6 PB Mf PD Q8 PM Mh PN Q9 PR Mi PU;have Rb:=xW (P:=l.prog) (w:=w) (base:=base) (kk:=7) P4 RF FR;have Rc:=Cn Qa Q7 PH Mg PJ;have Rf:=Cf P7 QZ OX L6 OY QS OI LW OJ QN Ot LO Ou QT OL LX OM;have W:B5 l.prog w K mg base _ _ _ _ _ _ _ _ _ (gX K).1 (gX K).2 _ _ _:={cF:=cF,MF:=MkF,FFI:=Wd,bFFI:=bFI,cS:=c,MS:=MkS,FSI:=Wn,bFSI:=bSI,cY:=cS,MY:=MkY,FYI:=Wr,bFYI:=V4,room:=⟨_,_,Q1,O9,Ma,Pa⟩,prime:=⟨_,_,Q3,Pk,Mc,Pl⟩,take:=⟨_,_,Hf,G9,GA,He⟩,wishes:=⟨_,_,Ra,PY,Mj,PZ⟩,kind:=⟨_,_,Rb,P5,Ml,P6⟩,due:=⟨_,_,Rc,Qb,Mn,Qc⟩,asked:=⟨_,_,Rf,P8,Mm,P9⟩,hd:=BT.hd _ (List.mem_singleton.mpr rfl),bm:=BT.bm,hS:=sR h168,m_max:=m_max,m_min:=m_min,m_len:=m_len,m_range:=m_range,m_repr:=m_repr};exact AY l_A c_A W
theorem uM {K:Frag}(o:oM K=qM):(tabIn K "law").isSome=true/\(K.lookup (gX K).2).isNone=true:=by
 obtain⟨o1,_⟩:=Prod.mk.inj (show(jO K,_)=(true,_) from o);unfold jO at o1;simp only[Bool.and_eq_true] at o1;obtain⟨_,_,_,_,_,_,_,_,_,_,LI,_⟩:=o1;unfold AX at LI;simp only[Bool.and_eq_true] at LI;obtain⟨_,_,_,_,_,_,_,_,_,_,_,h171,h172,_,_,_⟩:=LI;exact⟨h171,h172⟩
theorem Ec {l:OpenLaw}{q:zO}{loose:nO}{XP:(Str->Option Value)->Heap->Prop}{d:DefRec}(hn:l.most=some 63)(MW:d.params.defaults=[])(hd:d.name="law")
 (hr:((PyProof.Rows.recsOf q).find? (λe=>e.name==("law":Str))).isSome=true):
 WalkO q loose XP vO l.row.toRowW d [] (λf vs=>PySem.call f vs):=by
 refine Hd.tm (n:=63) (k:=10) (x:="_law_script") (CX:=λw=>aO l.prog w) (sp:=λK=>rB K (gX K).2) (φ:=λK=>oM K=qM) (tabs:=λK=>[gX K]) hn (by decide) MW ⟨rfl,by decide,by decide,rfl⟩ (λw h y=>y) ?_ (λw K mg fa h o X G e=>qd o X G (by rw[<-hd];exact e)) ?_ ?_
 ·intro w s₀ mg mb h K o Gr KX;obtain⟨ht,hk⟩:=uM o
  have e:tabIn K "law"=some (gX K):=by
   unfold gX
   cases q:tabIn K "law" with
   |none=>rw[q] at ht;cases ht
   |some v=>rfl
  obtain⟨dl,Nk⟩:=Option.isSome_iff_exists.mp hr;have tb:=tab_of Gr.T KX Nk e;refine⟨λr Ik=>?_,λr Ik=>?_⟩
  ·have z:r=gX K:=by simpa using Ik
   subst z;exact tb
  ·have z:r=gX K:=by simpa using Ik
   subst z
   cases q:K.lookup (gX K).2 with
   |none=>rfl
   |some v=>rw[q] at hk;cases hk
 ·intro K H a ns hl hO hS;refine⟨a,ns,rfl,?_,hl,⟨#[],hO.2 _ (List.mem_singleton.mpr rfl),True.intro,λpos _=>.inl rfl⟩,λ_=>rfl⟩
  rcases hS with(hS|⟨o,hS⟩)|hS
  ·rcases hO.1 a with z|⟨o,xs,z⟩|⟨z,_⟩
   ·rw[z] at hS;cases hS
   ·rw[z] at hS;cases hS
   ·rw[z] at hS;cases hS
  ·exact .inl ⟨o,hS⟩
  ·exact .inr hS
 ·intro w H s e s' z;obtain⟨a,cls,a0,B,d,H',_,_,_,_,hE⟩:=z;exact hE.elim
end K26
open PySem PySem.W PyProof.Rows
set_option maxRecDepth 100000 in
set_option maxHeartbeats 0 in
theorem PySem.Challenge.cw_falsesums_k26_degrees_refused_holds : PySem.Challenge.rw_falsesums_k26_degrees_refused.Holds := by
 refine PySem.W.holds_law K26.sd1 λadL=>?_
 refine PySem.W.holds_open (r:=PySem.Challenge.rw_falsesums_k26_degrees_refused.row) (q:=K26.cO) (loose:=["Field","is_filling","STEP"]) (Xt:=λs=>xlAt K26.cO K26.lv s&&recOk (PySem.Challenge.rw_falsesums_k26_degrees_refused.row.toRowW).records s) (XP:=XL K26.cO K26.lv)
  (Yf:=λs=>K26.oM (Hd.sY K26.qk s.heap)) (Ya:=λ_=>K26.qM) (YP:=K26.vO) (N:=11600) ?hl K26.yl K26.p6 (λs e=>xl_of s (Bool.and_eq_true_iff.mp e).1) XL.keeps (by rfl) (by rfl) (by rfl) (λs e=>recFacts_of (Bool.and_eq_true_iff.mp e).2) (by rfl) (by assumption) (by decide +kernel) K26.sd3 ?hw ?hc
 case hw=>w_witness2
 case hl =>
  refine Hd.abi λw=>?_;obtain⟨⟨h,s⟩,e,e0⟩:=Option.map_eq_some_iff.mp (K26.ran0 w)
  injection e0 with yk1 e0_0
  injection e0_0 with yk2 e0_1
  injection e0_1 with yB2 e0_2
  have e1:=Hd.at_ (K26.ran1 w) e
  injection e1 with yA1 e1_0
  have e2:=Hd.at_ (K26.ran2 w) e
  injection e2 with yA3 e2_0
  have e3:=Hd.at_ (K26.ran3 w) e;have e4:=Hd.at_ (K26.ran4 w) e
  injection e4 with yC2 e4_0
  have e5:=Hd.at_ (K26.ran5 w) e;have e6:=Hd.at_ (K26.ran6 w) e
  injection e6 with yC4 e6_0
  injection e6_0 with yC6 e6_1
  have e7:=Hd.at_ (K26.ran7 w) e;have e8:=Hd.at_ (K26.ran8 w) e
  injection e8 with yA4 e8_0
  injection yk2 with z1 z2
  injection z2 with z2 z3
  exact⟨h,s,e,yk1,⟨z1,z2,z3⟩,yA1,yA3,yA4,e6_1,e3,yB2,e0_2,e1_0,e2_0,e8_0,yC2,e5,yC4,e7,yC6,((congrArg K26.oM (Hd.aa5 _ _)).trans e4_0)⟩
 case hc=>exact K26.Ec rfl rfl rfl (by kernel_rfl)
